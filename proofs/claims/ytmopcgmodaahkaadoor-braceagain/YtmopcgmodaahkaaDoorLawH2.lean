/- The walk of the law BraceAgain. -/
import Derived.Test.YtmopcgmodaahkaaDoorBrF
import Derived.Laws.BitsAllLaws
namespace Go.Proofs.YtmopcgmodaahkaaDoor
open Go.RowKit Florin
set_option linter.unusedVariables false
set_option linter.unusedSimpArgs false
attribute [local go_sem ↓] Go.wp_at_zero Go.wp_at_succ
theorem jnB_len : ∀ (T : List (List UInt8)) (P : List Nat) (t : List UInt8), t ∈ T → t.length ≤ (jnB T P).length
  | [], P, t, h => absurd h (by simp)
  | s :: T, [], t, h => by
    show _ ≤ (s ++ jnB T []).length
    rw [List.length_append]
    rcases List.mem_cons.1 h with h | h
    · subst h; omega
    · have := jnB_len T [] t h; omega
  | s :: T, d :: P, t, h => by
    show _ ≤ (s ++ sgB d ++ jnB T P).length
    rw [List.length_append, List.length_append]
    rcases List.mem_cons.1 h with h | h
    · subst h; omega
    · have := jnB_len T P t h; omega
theorem nodup_len : ∀ (m : Nat) (Q : List Nat), Q.Nodup → (∀ d ∈ Q, d < m) → Q.length ≤ m
  | 0, Q, _, hq => by
    cases Q with
    | nil => simp
    | cons a t => exact absurd (hq a (List.mem_cons_self ..)) (by omega)
  | m + 1, Q, hq, hQ => by
    by_cases hmQ : m ∈ Q
    · have := nodup_len m (Q.erase m) (hq.erase m) (fun d h => by
        have h1 := hQ d (List.mem_of_mem_erase h)
        have h2 : d ≠ m := fun e => by subst e; exact (List.Nodup.not_mem_erase hq) h
        omega)
      rw [List.length_erase_of_mem hmQ] at this
      omega
    · have := nodup_len m Q hq (fun d h => by
        have h1 := hQ d h
        have h2 : d ≠ m := fun e => by subst e; exact hmQ h
        omega)
      omega
theorem sg_add (d : Nat) : (⟨#[123]⟩ : ByteArray) ++ (⟨([dg d] : List UInt8).toArray⟩ : ByteArray) ++ (⟨#[125]⟩ : ByteArray) = ⟨(sgB d).toArray⟩ := sg_arr d
theorem eR_no {R : BR} (h : eR R = 0) (hb : ∀ c k, R = .bad c k → c ≠ 0) : ∃ T P, R = .ok T P := by
  cases R with
  | ok T P => exact ⟨T, P, rfl⟩
  | bad c k => exact absurd h (hb c k rfl)
theorem brS_code (n : Int) : ∀ (l : List UInt8) (k i : Nat) (cur : List UInt8) (T : List (List UInt8)) (P : List Nat) (c j : Nat), brS n l k i cur T P = .bad c j → c ≠ 0
  | [], k, i, cur, T, P, c, j, h => by
    have h' : (if (P.length : Int) < min n 10 then BR.bad 3 i else .ok (T ++ [cur]) P) = .bad c j := h
    split at h'
    · injection h' with h1; omega
    · cases h'
  | x :: l, k + 1, i, cur, T, P, c, j, h => brS_code n l k (i + 1) cur T P c j h
  | x :: l, 0, i, cur, T, P, c, j, h => by
    cases hb : isBr x with
    | false => rw [brS_plain n hb] at h; exact brS_code n l 0 _ _ _ _ c j h
    | true =>
      cases hp : plcB (x :: l) with
      | none => rw [brS_none n hb hp] at h; injection h with h1; omega
      | some d =>
        by_cases ha : n ≤ (d : Int) ∨ d ∈ P
        · rw [brS_arg n hb hp _ _ _ _ ha] at h; injection h with h1; omega
        · have e : brS n (x :: l) 0 i cur T P = brS n l 2 (i + 1) [] (T ++ [cur]) (P ++ [d]) := by
            show (if isBr x then (match plcB (x :: l) with | none => _ | some d => if n ≤ (d : Int) ∨ d ∈ P then _ else brS n l 2 (i + 1) [] (T ++ [cur]) (P ++ [d])) else _) = _
            rw [hb, hp]
            show (if n ≤ (d : Int) ∨ d ∈ P then _ else _) = _
            rw [if_neg ha]
          rw [e] at h
          exact brS_code n l 2 _ _ _ _ c j h
set_option maxRecDepth 100000 in
set_option maxHeartbeats 6400000 in
theorem braceAgain_walk (s : ByteArray) (n : Int) (w : World) (_hs : s.size ≤ maxLen) (_hn : (Lit.int .i64 n).wf = true) (hTab : Tabs w) :
    Calls Tryd.prog 7 #[.string s, .int .i64 n] w fun x w' => x = .returned (.bool true) ∧ Below w.heap.size w w' := by
  obtain ⟨i0, hi, hz0, hz1, hz2⟩ := info_parts infoS
  have HT := Lib.hid hTab
  clear hTab
  obtain ⟨K, hK, eK⟩ := and_mask n 7 (by omega)
  rw [show ((7 : Nat) : Int) = 7 from rfl] at eK
  by_cases hbig : (100 : Int) < (s.size : Int)
  · clear eK
    go_enter Tryd.func7, Tryd.ntmps7
    go_wp2_with fail
    with_reducible refine (head13 _ HT.out).mono ?_
    rintro x w1 ⟨rfl, hb⟩
    go_wp2
    go_ret
    exact ⟨rfl, hb⟩
  · have hsz : s.size ≤ 100 := by omega
    go_enter Tryd.func7, Tryd.ntmps7
    go_wp2_with fail
    with_reducible refine (head13 _ HT.out).mono ?_
    rintro x w1 ⟨rfl, hb⟩
    have B1 := Lib.hid hb
    have T1 := Lib.hid (HT.out.below hb)
    clear hb
    go_wp2_with fail
    clear eK
    cases hr : rightL s.data.toList with
    | false =>
      have HR := Lib.hid hr
      clear hr
      with_reducible refine (bparse_no s K _ T1.out (by omega) HR.out).mono ?_
      rintro e w2 ⟨rfl, hb⟩
      have B2 := Lib.hid (B1.out.trans (hb.mono B1.out.size))
      clear hb
      go_wp2
      go_ret
      exact ⟨rfl, B2.out.alloc B2.out.size _⟩
    | true =>
      obtain ⟨R, hR⟩ : ∃ R, brS (K : Int) s.data.toList 0 0 [] [] [] = R := ⟨_, rfl⟩
      have HR := Lib.hid hr
      have HRR := Lib.hid hR
      clear hr
      with_reducible refine (bparse_as s K _ T1.out (by omega) HR.out R HRR.out).mono ?_
      rintro e w2 ⟨hbt, hb⟩
      obtain ⟨at_, ct_, ap_, cp_, rfl, hok⟩ := btold_all hbt
      have HOK := Lib.hid hok
      have B2 := Lib.hid (B1.out.trans (hb.mono B1.out.size))
      have hw1 := B1.out.size
      have hw0 := B2.out.size
      clear hb hok hbt hR
      by_cases he : eR R = 0
      · obtain ⟨T, P, hTP⟩ := eR_no he (fun c k hk => brS_code _ _ _ _ _ _ _ c k (HRR.out.trans hk))
        have HO := Lib.hid (HOK.out _ _ hTP)
        have HF := Lib.hid (brS_ok K s.size s.data.toList 0 [] [] [] T P (by rw [size_list]; exact Nat.le_refl _) rfl (by simp) List.nodup_nil (by simp) (by simp) (HRR.out.trans hTP))
        have e1 : (eR R : Int) = 0 := by rw [he]; rfl
        have e3 : (nR R).1 = T.length := by rw [hTP]; rfl
        have e4 : (nR R).2 = P.length := by rw [hTP]; rfl
        rw [e1, e3, e4]
        clear he e1 e3 e4 hTP
        have X2 := Lib.hid (BoxT.new w2 #[.slice at_ T.length ct_, .slice ap_ P.length cp_] TBr)
        have B2a := Lib.hid (B2.out.alloc B2.out.size (.cells #[.slice at_ T.length ct_, .slice ap_ P.length cp_] TBr))
        go_wp2_with fail
        go_loopw [8, 9] (fun v i wr => ∃ k : Nat, k ≤ K ∧ i = .int .i64 k ∧ OwnT wr (w2.heap.size + 1) v (sgs k) ∧ BoxT wr w2.heap.size #[.slice at_ T.length ct_, .slice ap_ P.length cp_] TBr ∧ Below w2.heap.size w2 wr) (fun _ i _ => K - (intOf i).toNat)
        case atStart =>
          have ho := own_mono (base' := w2.heap.size + 1) (own_lit0 (w2.alloc (.cells #[.slice at_ T.length ct_, .slice ap_ P.length cp_] TBr)) 9) (by simp)
          rw [show (w2.alloc (.cells #[.slice at_ T.length ct_, .slice ap_ P.length cp_] TBr)).heap.size = w2.heap.size + 1 by simp] at ho
          exact ⟨0, Nat.zero_le _, rfl, ho, X2.out.alloc _, ((Below.refl _ _).alloc (Nat.le_refl _) _).alloc (by simp) _⟩
        case round =>
          obtain ⟨k, hk, rfl, ho, hx, hb⟩ := hrel
          have HO2 := Lib.hid ho
          have HX := Lib.hid hx
          have HB := Lib.hid hb
          obtain ⟨ao, co, rfl⟩ := own_slice ho
          have xl := hx.lt
          have c0 := hx.cell 0
          have c1 := hx.cell 1
          simp at c0 c1
          clear ho hx hb
          by_cases hlt : k < K
          · have hlti : (k : Int) < (K : Int) := by omega
            have hln : (sgs k).length ≤ 10 := by rw [sgs_len]; omega
            obtain ⟨c, hc⟩ : ∃ c, dg k = c := ⟨_, rfl⟩
            have HD : Hid (Calls Tryd.prog 16 #[.int .i64 (k : Int)] wr fun e w' => e = .returned (S [c]) ∧ Below wr.heap.size wr w') := Lib.hid (by rw [← hc]; exact digit_as k (by omega) wr)
            have HSg : Hid (S (sgB k) = .string ⟨#[123, c, 125]⟩) := Lib.hid (by rw [← hc]; rfl)
            have hsg : (⟨#[123]⟩ : ByteArray) ++ (⟨#[c]⟩ : ByteArray) ++ (⟨#[125]⟩ : ByteArray) = ⟨#[123, c, 125]⟩ := by apply ByteArray.ext; simp [ByteArray.data_append]
            clear hc
            go_wp2_with fail
            with_reducible refine HD.out.mono ?_
            rintro e w4 ⟨rfl, hb⟩
            have O4 := Lib.hid (own_below HO2.out hb)
            have X4 := Lib.hid (HX.out.below hb)
            have B4 := Lib.hid (HB.out.trans (hb.mono HB.out.size))
            have hw4 := X4.out.lt
            clear hb HD c0 c1
            go_wp2_with (at_builtin; refine wpList_append_lies _ rfl _ _ _ rfl (w2.heap.size + 1) 9 i0 (.string ⟨#[]⟩) 1 16 Tryd.underlying39 hi hz0 hz1 hz2 rfl (by omega) (.slice ao (sgs k).length co) (sgs k).length ((sgs k).map S) rfl (O4.out.alloc _) ⟨w4.heap.size, 0, none⟩ 1 1 [.string ⟨#[123, c, 125]⟩] rfl rfl (World.news_of_block (heap_alloc_new _ _)) (by simp [Value.oneCell']) (by omega) (by unfold maxLen; omega) (by omega) (by simp; omega) _ rfl ?_; intro g2 cap2 w7 hown hgr hat hlt3)
            have HX7 := Lib.hid ((X4.out.alloc (.cells #[.string ⟨#[123, c, 125]⟩] 9)).grown hgr (own_not O4.out (Nat.lt_succ_self _)))
            have HO7 : Hid (OwnT w7 (w2.heap.size + 1) (.slice (some ⟨g2, 0, none⟩) ((sgs k).length + 1) cap2) (sgs (k + 1))) := Lib.hid (by
              rw [sgs_succ]
              show World.ownsRow _ _ _ _ _ _ _
              rw [List.map_append, List.length_append, List.map_singleton, HSg.out]
              exact hown)
            have HB7 := Lib.hid ((B4.out.alloc B4.out.size (.cells #[.string ⟨#[123, c, 125]⟩] 9)).grown hgr (by simp; omega) (fun j hj => by have := (O4.out.lt j hj).1; omega))
            clear hown hgr hat hlt3
            go_wp2
            go_roundw
            case rel => exact ⟨k + 1, by omega, by go_num, HO7.out, HX7.out, HB7.out⟩
            case measure => simp [intOf]; omega
          · obtain rfl : k = K := by omega
            have hlti : ¬ (k : Int) < (k : Int) := by omega
            have hPk : ∀ d ∈ P, d < k := fun d hd => by have := (HF.out.2.2.1 d hd).2; omega
            have hTl : P.length < T.length ∧ T.length ≤ P.length + 1 := by have := HF.out.2.1; omega
            have hLs : Hid (∀ t ∈ T, t.length ≤ 1000) := Lib.hid (fun t ht => by
              have h1 := jnB_len T P t ht
              rw [HF.out.1] at h1
              simp only [jnB, List.nil_append, List.append_nil, size_list] at h1
              omega)
            have hPl : P.length ≤ k := nodup_len k P HF.out.2.2.2.1 hPk
            have hTX : Hid ((flK (sgs k) T P T.length).1 = s.data.toList) := Lib.hid (by rw [flK_all k T P hPk (by omega), HF.out.1]; simp [jnB])
            have hST : Hid (∀ i, i < k → (flK (sgs k) T P T.length).2 i + 3 ≤ s.size ∧ (s.data.toList.drop ((flK (sgs k) T P T.length).2 i)).take 3 = sgB i) := Lib.hid (fun i hi => by
              have hmem := all_there k P HF.out.2.2.2.1 hPk (by have := HF.out.2.2.2.2.1; omega) i hi
              obtain ⟨j, hj⟩ := List.getElem?_of_mem hmem
              have hjl := (List.getElem?_eq_some_iff.1 hj).1
              have h1 := flK_stand (sgs k) T P HF.out.2.2.2.1 T.length j i (by omega) hj (by rw [sgs_len]; exact hi)
              rw [sgs_get hi, hTX.out, size_list] at h1
              exact h1)
            have hW : Below w2.heap.size w2 wr := HB.out
            have I1 := Lib.hid ((OwnT.inT HO.out.1).below hW)
            have I2 := Lib.hid ((OwnP.inP HO.out.2).below hW)
            have BW := Lib.hid (B2.out.trans (HB.out.mono hw0))
            clear hW hPk
            go_wp2_with fail
            with_reducible refine (fill_as _ _ _ T P (sgs k) _ I1.out I2.out HO2.out.inT (by omega) (by omega) (by omega) (by rw [sgs_len]; omega) hLs.out (sgs_sz k)).mono ?_
            rintro e w5 ⟨v5, rfl, hos, hb⟩
            have hos2 : OwnS w5 wr.heap.size v5 (sgs k).length (flK (sgs k) T P T.length).2 := hos
            rw [hTX.out, show S s.data.toList = .string s by show Value.string ⟨_⟩ = _; rw [list_arr]]
            have BW5 := Lib.hid (BW.out.trans (hb.mono BW.out.size))
            have HL5 := Lib.hid (OwnT.inT (own_below HO2.out hb))
            have OS5 := Lib.hid hos2
            obtain ⟨a5, c5, rfl⟩ := own_slice hos2
            generalize (flK (sgs k) T P T.length).2 = st at hST OS5
            clear hb hos hos2
            have hsl : (sgs k).length = k := sgs_len k
            rw [hsl] at OS5 ⊢
            go_wp2_with fail
            go_loopw [64] (fun i wx => ∃ j : Nat, j ≤ k ∧ i = .int .i64 j ∧ Below w5.heap.size w5 wx) (fun i _ => k - (intOf i).toNat)
            case atStart => exact ⟨0, Nat.zero_le _, rfl, Below.refl _ _⟩
            case round =>
              obtain ⟨j, hj, rfl, hbx⟩ := hrel
              have HBX := Lib.hid hbx
              clear hbx
              by_cases hlt2 : j < k
              · have hlt2i : (j : Int) < (k : Int) := by omega
                obtain ⟨g5, rfl⟩ : ∃ g, a5 = some ⟨g, 0, none⟩ := by
                  rcases OS5.out.2 with ⟨_, h0⟩ | ⟨g, cap, cur, hv, _⟩
                  · omega
                  · cases hv; exact ⟨g, rfl⟩
                obtain ⟨al, cl, hvl, _, _, hL4⟩ := HL5.out
                cases hvl
                obtain ⟨gl, ol, rfl, hgl, hcl⟩ := hL4 (by rw [hsl]; omega)
                have q1 : w5.cell? ⟨gl, ol + j, none⟩ = some (S ((sgs k).getD j [])) := hcl j (by rw [hsl]; omega)
                rw [sgs_get hlt2] at q1
                have q2 := World.ownsRow.cellAt OS5.out j (by omega)
                have hg5 := (OS5.out.lt g5 rfl).2
                have q3 : (stL k st)[j]? = some (pv (st j)) := by simp [stL, hlt2]
                rw [q3] at q2
                obtain ⟨h1, h2⟩ := hST.out j hlt2
                obtain ⟨G, hG⟩ : ∃ G : ByteArray, (⟨(sgB j).toArray⟩ : ByteArray) = G := ⟨_, rfl⟩
                have hx : s.extract (st j) (st j + 3) = G := by
                  have := ext_S2 s (st j) (st j + 3) h1
                  rw [Nat.add_sub_cancel_left, h2] at this
                  rw [← hG]
                  exact Value.string.inj this
                have q4 : wr.cell? ⟨gl, ol + j, none⟩ = some (.string G) := by rw [← hG]; exact (HBX.out.cell (p := ⟨gl, ol + j, none⟩) hgl).trans q1
                have q5 : wr.cell? ⟨g5, j, none⟩ = some (.int .i64 (st j : Int)) := (HBX.out.cell (p := ⟨g5, j, none⟩) hg5).trans q2
                have hgl2 := Nat.lt_of_lt_of_le hgl HBX.out.size
                have hg52 := Nat.lt_of_lt_of_le hg5 HBX.out.size
                clear q1 q2 q3 h2 hG hcl hL4
                generalize st j = p at h1 hx q5
                have r1 : ¬ (p : Int) < 0 := by omega
                have r2 : ¬ (s.size : Int) < (p : Int) + 3 := by omega
                have r3 : (0 : Int) ≤ (p : Int) + 3 ∧ (p : Int) + 3 ≤ (s.size : Int) := by omega
                have r4 : (p : Int) ≤ (p : Int) + 3 := by omega
                have r5 : ((p : Int) + 3).toNat = p + 3 := by omega
                have r6 : (0 : Int) ≤ (p : Int) + 3 := by omega
                have r7 : (p : Int) + 3 ≤ (s.size : Int) := by omega
                have r9 : IntKind.i64.wrap ((p : Int) + 3) = (p : Int) + 3 := by rw [IntKind.wrap_i64]; omega
                have r8 : decide ((s.size : Int) < (p : Int) + 3) = false := decide_eq_false r2
                go_wp2_with fail
                refine wp_region_held_drew (S := fun w' => w' = wr.drew) (by kernel_rfl) rfl (fun hHeld => ?_)
                refine wpAnyH_take (i := 0) (oi := { dst := some 67, op := Go.Op.move (Go.Operand.tmp 11), type := 40, pos := "law.go:163", after := #[], guard := none }) (v := ?_) rfl (by kernel_rfl) (by kernel_rfl) (by kernel_rfl) (fun _ _ _ h => h) (Or.inl ⟨by rfl, ?_⟩) rfl ?_
                case refine_2 => (intro w hSw; (try dsimp only at hSw); subst hSw; go_simp <;> with_reducible rfl)
                try simp only [Act.put, List.setIfInBounds_toArray, List.set_cons_zero, List.set_cons_succ]
                refine wpAnyH_take (i := 1) (oi := { dst := some 68, op := Go.Op.move (Go.Operand.tmp 12), type := 3, pos := "law.go:163", after := #[], guard := none }) (v := ?_) rfl (by kernel_rfl) (by kernel_rfl) (by kernel_rfl) (fun _ _ _ h => h) (Or.inl ⟨by rfl, ?_⟩) rfl ?_
                case refine_2 => (intro w hSw; (try dsimp only at hSw); subst hSw; go_simp <;> with_reducible rfl)
                try simp only [Act.put, List.setIfInBounds_toArray, List.set_cons_zero, List.set_cons_succ]
                refine wpAnyH_take (i := 2) (oi := { dst := some 69, op := Go.Op.indexAddr 40 (Go.Operand.tmp 67) (Go.Operand.tmp 68), type := 0, pos := "law.go:163", after := #[{ on := 0, ground := Go.Ground.data }, { on := 1, ground := Go.Ground.data }], guard := none }) (v := ?_) rfl (by kernel_rfl) (by kernel_rfl) (by kernel_rfl) (fun _ _ _ h => h) (Or.inl ⟨by rfl, ?_⟩) rfl ?_
                case refine_2 => (intro w hSw; (try dsimp only at hSw); subst hSw; go_simp <;> with_reducible rfl)
                try simp only [Act.put, List.setIfInBounds_toArray, List.set_cons_zero, List.set_cons_succ]
                refine wpAnyH_take (i := 3) (oi := { dst := some 70, op := Go.Op.load 3 (Go.Operand.tmp 69), type := 3, pos := "law.go:163", after := #[{ on := 2, ground := Go.Ground.data }], guard := none }) (v := ?_) rfl (by kernel_rfl) (by kernel_rfl) (by kernel_rfl) (fun _ _ _ h => h) (Or.inl ⟨by rfl, ?_⟩) rfl ?_
                case refine_2 => (intro w hSw; (try dsimp only at hSw); subst hSw; go_simp <;> with_reducible rfl)
                try simp only [Act.put, List.setIfInBounds_toArray, List.set_cons_zero, List.set_cons_succ]
                refine wpAnyH_take (i := 4) (oi := { dst := some 71, op := Go.Op.binOp Go.BinOp.lss 3 (Go.Operand.tmp 70) (Go.Operand.const (Go.Value.int Go.IntKind.i64 0)) 3, type := 4, pos := "law.go:163", after := #[{ on := 3, ground := Go.Ground.data }], guard := none }) (v := ?_) rfl (by kernel_rfl) (by kernel_rfl) (by kernel_rfl) (fun _ _ _ h => h) (Or.inl ⟨by rfl, ?_⟩) rfl ?_
                case refine_2 => (intro w hSw; (try dsimp only at hSw); subst hSw; go_simp <;> with_reducible rfl)
                try simp only [Act.put, List.setIfInBounds_toArray, List.set_cons_zero, List.set_cons_succ]
                refine wpAnyH_take (i := 5) (oi := { dst := some 72, op := Go.Op.move (Go.Operand.tmp 71), type := 4, pos := "law.go:163", after := #[{ on := 4, ground := Go.Ground.data }], guard := none }) (v := ?_) rfl (by kernel_rfl) (by kernel_rfl) (by kernel_rfl) (fun _ _ _ h => h) (Or.inl ⟨by rfl, ?_⟩) rfl ?_
                case refine_2 => (intro w hSw; (try dsimp only at hSw); subst hSw; go_simp <;> with_reducible rfl)
                try simp only [Act.put, List.setIfInBounds_toArray, List.set_cons_zero, List.set_cons_succ]
                refine wpAnyH_take (i := 6) (oi := { dst := some 73, op := Go.Op.move (Go.Operand.tmp 11), type := 40, pos := "law.go:163", after := #[{ on := 5, ground := Go.Ground.guard }], guard := some (5, false) }) (v := ?_) rfl (by kernel_rfl) (by kernel_rfl) (by kernel_rfl) (fun _ _ _ h => h) (Or.inl ⟨by rfl, ?_⟩) rfl ?_
                case refine_2 => (intro w hSw; (try dsimp only at hSw); subst hSw; go_simp <;> with_reducible rfl)
                try simp only [Act.put, List.setIfInBounds_toArray, List.set_cons_zero, List.set_cons_succ]
                refine wpAnyH_take (i := 7) (oi := { dst := some 74, op := Go.Op.move (Go.Operand.tmp 12), type := 3, pos := "law.go:163", after := #[{ on := 5, ground := Go.Ground.guard }], guard := some (5, false) }) (v := ?_) rfl (by kernel_rfl) (by kernel_rfl) (by kernel_rfl) (fun _ _ _ h => h) (Or.inl ⟨by rfl, ?_⟩) rfl ?_
                case refine_2 => (intro w hSw; (try dsimp only at hSw); subst hSw; go_simp <;> with_reducible rfl)
                try simp only [Act.put, List.setIfInBounds_toArray, List.set_cons_zero, List.set_cons_succ]
                refine wpAnyH_take (i := 8) (oi := { dst := some 75, op := Go.Op.indexAddr 40 (Go.Operand.tmp 73) (Go.Operand.tmp 74), type := 0, pos := "law.go:163", after := #[{ on := 6, ground := Go.Ground.data }, { on := 7, ground := Go.Ground.data }, { on := 5, ground := Go.Ground.guard }], guard := some (5, false) }) (v := ?_) rfl (by kernel_rfl) (by kernel_rfl) (by kernel_rfl) (fun _ _ _ h => h) (Or.inl ⟨by rfl, ?_⟩) rfl ?_
                case refine_2 => (intro w hSw; (try dsimp only at hSw); subst hSw; go_simp <;> with_reducible rfl)
                try simp only [Act.put, List.setIfInBounds_toArray, List.set_cons_zero, List.set_cons_succ]
                refine wpAnyH_take (i := 9) (oi := { dst := some 76, op := Go.Op.load 3 (Go.Operand.tmp 75), type := 3, pos := "law.go:163", after := #[{ on := 8, ground := Go.Ground.data }, { on := 5, ground := Go.Ground.guard }], guard := some (5, false) }) (v := ?_) rfl (by kernel_rfl) (by kernel_rfl) (by kernel_rfl) (fun _ _ _ h => h) (Or.inl ⟨by rfl, ?_⟩) rfl ?_
                case refine_2 => (intro w hSw; (try dsimp only at hSw); subst hSw; go_simp <;> with_reducible rfl)
                try simp only [Act.put, List.setIfInBounds_toArray, List.set_cons_zero, List.set_cons_succ]
                refine wpAnyH_take (i := 10) (oi := { dst := some 77, op := Go.Op.binOp Go.BinOp.add 3 (Go.Operand.tmp 76) (Go.Operand.const (Go.Value.int Go.IntKind.i64 3)) 3, type := 3, pos := "law.go:163", after := #[{ on := 9, ground := Go.Ground.data }, { on := 5, ground := Go.Ground.guard }], guard := some (5, false) }) (v := ?_) rfl (by kernel_rfl) (by kernel_rfl) (by kernel_rfl) (fun _ _ _ h => h) (Or.inl ⟨by rfl, ?_⟩) rfl ?_
                case refine_2 => (intro w hSw; (try dsimp only at hSw); subst hSw; go_simp <;> with_reducible rfl)
                try simp only [Act.put, List.setIfInBounds_toArray, List.set_cons_zero, List.set_cons_succ]
                refine wpAnyH_take (i := 11) (oi := { dst := some 78, op := Go.Op.move (Go.Operand.tmp 10), type := 9, pos := "law.go:163", after := #[{ on := 5, ground := Go.Ground.guard }], guard := some (5, false) }) (v := ?_) rfl (by kernel_rfl) (by kernel_rfl) (by kernel_rfl) (fun _ _ _ h => h) (Or.inl ⟨by rfl, ?_⟩) rfl ?_
                case refine_2 => (intro w hSw; (try dsimp only at hSw); subst hSw; go_simp <;> with_reducible rfl)
                try simp only [Act.put, List.setIfInBounds_toArray, List.set_cons_zero, List.set_cons_succ]
                refine wpAnyH_take (i := 12) (oi := { dst := some 79, op := Go.Op.call { callee := Go.Callee.builtin Go.Builtin.len, args := #[Go.Operand.tmp 78], argTypes := #[9] }, type := 3, pos := "law.go:163", after := #[{ on := 11, ground := Go.Ground.data }, { on := 5, ground := Go.Ground.guard }], guard := some (5, false) }) (v := ?_) rfl (by kernel_rfl) (by kernel_rfl) (by kernel_rfl) (fun _ _ _ h => h) (Or.inl ⟨by rfl, ?_⟩) rfl ?_
                case refine_2 => (intro w hSw; (try dsimp only at hSw); subst hSw; go_simp <;> with_reducible rfl)
                try simp only [Act.put, List.setIfInBounds_toArray, List.set_cons_zero, List.set_cons_succ]
                refine wpAnyH_take (i := 13) (oi := { dst := some 80, op := Go.Op.binOp Go.BinOp.gtr 3 (Go.Operand.tmp 77) (Go.Operand.tmp 79) 3, type := 4, pos := "law.go:163", after := #[{ on := 10, ground := Go.Ground.data }, { on := 12, ground := Go.Ground.data }, { on := 5, ground := Go.Ground.guard }], guard := some (5, false) }) (v := ?_) rfl (by kernel_rfl) (by kernel_rfl) (by kernel_rfl) (fun _ _ _ h => h) (Or.inl ⟨by rfl, ?_⟩) rfl ?_
                case refine_2 => (intro w hSw; (try dsimp only at hSw); subst hSw; go_simp <;> with_reducible rfl)
                try simp only [Act.put, List.setIfInBounds_toArray, List.set_cons_zero, List.set_cons_succ]
                refine wpAnyH_take (i := 14) (oi := { dst := some 81, op := Go.Op.pick (Go.Operand.tmp 72) (Go.Operand.const (Go.Value.bool true)) (Go.Operand.tmp 80), type := 4, pos := "law.go:163", after := #[{ on := 5, ground := Go.Ground.data }, { on := 13, ground := Go.Ground.data }], guard := none }) (v := ?_) rfl (by kernel_rfl) (by kernel_rfl) (by kernel_rfl) (fun _ _ _ h => h) (Or.inl ⟨by rfl, ?_⟩) rfl ?_
                case refine_2 => (intro w hSw; (try dsimp only at hSw); subst hSw; go_simp <;> with_reducible rfl)
                try simp only [Act.put, List.setIfInBounds_toArray, List.set_cons_zero, List.set_cons_succ]
                refine wpAnyH_take (i := 15) (oi := { dst := some 82, op := Go.Op.move (Go.Operand.tmp 81), type := 4, pos := "law.go:163", after := #[{ on := 14, ground := Go.Ground.data }, { on := 5, ground := Go.Ground.chain }], guard := none }) (v := ?_) rfl (by kernel_rfl) (by kernel_rfl) (by kernel_rfl) (fun _ _ _ h => h) (Or.inl ⟨by rfl, ?_⟩) rfl ?_
                case refine_2 => (intro w hSw; (try dsimp only at hSw); subst hSw; go_simp <;> with_reducible rfl)
                try simp only [Act.put, List.setIfInBounds_toArray, List.set_cons_zero, List.set_cons_succ]
                refine wpAnyH_take (i := 16) (oi := { dst := some 83, op := Go.Op.move (Go.Operand.tmp 10), type := 9, pos := "law.go:163", after := #[{ on := 15, ground := Go.Ground.guard }], guard := some (15, false) }) (v := ?_) rfl (by kernel_rfl) (by kernel_rfl) (by kernel_rfl) (fun _ _ _ h => h) (Or.inl ⟨by rfl, ?_⟩) rfl ?_
                case refine_2 => (intro w hSw; (try dsimp only at hSw); subst hSw; go_simp <;> with_reducible rfl)
                try simp only [Act.put, List.setIfInBounds_toArray, List.set_cons_zero, List.set_cons_succ]
                refine wpAnyH_take (i := 17) (oi := { dst := some 84, op := Go.Op.move (Go.Operand.tmp 11), type := 40, pos := "law.go:163", after := #[{ on := 15, ground := Go.Ground.guard }], guard := some (15, false) }) (v := ?_) rfl (by kernel_rfl) (by kernel_rfl) (by kernel_rfl) (fun _ _ _ h => h) (Or.inl ⟨by rfl, ?_⟩) rfl ?_
                case refine_2 => (intro w hSw; (try dsimp only at hSw); subst hSw; go_simp <;> with_reducible rfl)
                try simp only [Act.put, List.setIfInBounds_toArray, List.set_cons_zero, List.set_cons_succ]
                refine wpAnyH_take (i := 18) (oi := { dst := some 85, op := Go.Op.move (Go.Operand.tmp 12), type := 3, pos := "law.go:163", after := #[{ on := 15, ground := Go.Ground.guard }], guard := some (15, false) }) (v := ?_) rfl (by kernel_rfl) (by kernel_rfl) (by kernel_rfl) (fun _ _ _ h => h) (Or.inl ⟨by rfl, ?_⟩) rfl ?_
                case refine_2 => (intro w hSw; (try dsimp only at hSw); subst hSw; go_simp <;> with_reducible rfl)
                try simp only [Act.put, List.setIfInBounds_toArray, List.set_cons_zero, List.set_cons_succ]
                refine wpAnyH_take (i := 19) (oi := { dst := some 86, op := Go.Op.indexAddr 40 (Go.Operand.tmp 84) (Go.Operand.tmp 85), type := 0, pos := "law.go:163", after := #[{ on := 17, ground := Go.Ground.data }, { on := 18, ground := Go.Ground.data }, { on := 15, ground := Go.Ground.guard }], guard := some (15, false) }) (v := ?_) rfl (by kernel_rfl) (by kernel_rfl) (by kernel_rfl) (fun _ _ _ h => h) (Or.inl ⟨by rfl, ?_⟩) rfl ?_
                case refine_2 => (intro w hSw; (try dsimp only at hSw); subst hSw; go_simp <;> with_reducible rfl)
                try simp only [Act.put, List.setIfInBounds_toArray, List.set_cons_zero, List.set_cons_succ]
                refine wpAnyH_take (i := 20) (oi := { dst := some 87, op := Go.Op.load 3 (Go.Operand.tmp 86), type := 3, pos := "law.go:163", after := #[{ on := 19, ground := Go.Ground.data }, { on := 15, ground := Go.Ground.guard }], guard := some (15, false) }) (v := ?_) rfl (by kernel_rfl) (by kernel_rfl) (by kernel_rfl) (fun _ _ _ h => h) (Or.inl ⟨by rfl, ?_⟩) rfl ?_
                case refine_2 => (intro w hSw; (try dsimp only at hSw); subst hSw; go_simp <;> with_reducible rfl)
                try simp only [Act.put, List.setIfInBounds_toArray, List.set_cons_zero, List.set_cons_succ]
                refine wpAnyH_take (i := 21) (oi := { dst := some 88, op := Go.Op.move (Go.Operand.tmp 11), type := 40, pos := "law.go:163", after := #[{ on := 15, ground := Go.Ground.guard }], guard := some (15, false) }) (v := ?_) rfl (by kernel_rfl) (by kernel_rfl) (by kernel_rfl) (fun _ _ _ h => h) (Or.inl ⟨by rfl, ?_⟩) rfl ?_
                case refine_2 => (intro w hSw; (try dsimp only at hSw); subst hSw; go_simp <;> with_reducible rfl)
                try simp only [Act.put, List.setIfInBounds_toArray, List.set_cons_zero, List.set_cons_succ]
                refine wpAnyH_take (i := 22) (oi := { dst := some 89, op := Go.Op.move (Go.Operand.tmp 12), type := 3, pos := "law.go:163", after := #[{ on := 15, ground := Go.Ground.guard }], guard := some (15, false) }) (v := ?_) rfl (by kernel_rfl) (by kernel_rfl) (by kernel_rfl) (fun _ _ _ h => h) (Or.inl ⟨by rfl, ?_⟩) rfl ?_
                case refine_2 => (intro w hSw; (try dsimp only at hSw); subst hSw; go_simp <;> with_reducible rfl)
                try simp only [Act.put, List.setIfInBounds_toArray, List.set_cons_zero, List.set_cons_succ]
                refine wpAnyH_take (i := 23) (oi := { dst := some 90, op := Go.Op.indexAddr 40 (Go.Operand.tmp 88) (Go.Operand.tmp 89), type := 0, pos := "law.go:163", after := #[{ on := 21, ground := Go.Ground.data }, { on := 22, ground := Go.Ground.data }, { on := 15, ground := Go.Ground.guard }], guard := some (15, false) }) (v := ?_) rfl (by kernel_rfl) (by kernel_rfl) (by kernel_rfl) (fun _ _ _ h => h) (Or.inl ⟨by rfl, ?_⟩) rfl ?_
                case refine_2 => (intro w hSw; (try dsimp only at hSw); subst hSw; go_simp <;> with_reducible rfl)
                try simp only [Act.put, List.setIfInBounds_toArray, List.set_cons_zero, List.set_cons_succ]
                refine wpAnyH_take (i := 24) (oi := { dst := some 91, op := Go.Op.load 3 (Go.Operand.tmp 90), type := 3, pos := "law.go:163", after := #[{ on := 23, ground := Go.Ground.data }, { on := 15, ground := Go.Ground.guard }], guard := some (15, false) }) (v := ?_) rfl (by kernel_rfl) (by kernel_rfl) (by kernel_rfl) (fun _ _ _ h => h) (Or.inl ⟨by rfl, ?_⟩) rfl ?_
                case refine_2 => (intro w hSw; (try dsimp only at hSw); subst hSw; go_simp <;> with_reducible rfl)
                try simp only [Act.put, List.setIfInBounds_toArray, List.set_cons_zero, List.set_cons_succ]
                refine wpAnyH_take (i := 25) (oi := { dst := some 92, op := Go.Op.binOp Go.BinOp.add 3 (Go.Operand.tmp 91) (Go.Operand.const (Go.Value.int Go.IntKind.i64 3)) 3, type := 3, pos := "law.go:163", after := #[{ on := 24, ground := Go.Ground.data }, { on := 15, ground := Go.Ground.guard }], guard := some (15, false) }) (v := ?_) rfl (by kernel_rfl) (by kernel_rfl) (by kernel_rfl) (fun _ _ _ h => h) (Or.inl ⟨by rfl, ?_⟩) rfl ?_
                case refine_2 => (intro w hSw; (try dsimp only at hSw); subst hSw; go_simp <;> with_reducible rfl)
                try simp only [Act.put, List.setIfInBounds_toArray, List.set_cons_zero, List.set_cons_succ]
                refine wpAnyH_take (i := 26) (oi := { dst := some 93, op := Go.Op.slice 9 (Go.Operand.tmp 83) (some (Go.Operand.tmp 87)) (some (Go.Operand.tmp 92)) none, type := 9, pos := "law.go:163", after := #[{ on := 16, ground := Go.Ground.data }, { on := 20, ground := Go.Ground.data }, { on := 25, ground := Go.Ground.data }, { on := 15, ground := Go.Ground.guard }], guard := some (15, false) }) (v := ?_) rfl (by kernel_rfl) (by kernel_rfl) (by kernel_rfl) (fun _ _ _ h => h) (Or.inl ⟨by rfl, ?_⟩) rfl ?_
                case refine_2 => (intro w hSw; (try dsimp only at hSw); subst hSw; go_simp <;> with_reducible rfl)
                try simp only [Act.put, List.setIfInBounds_toArray, List.set_cons_zero, List.set_cons_succ]
                refine wpAnyH_take (i := 27) (oi := { dst := some 94, op := Go.Op.move (Go.Operand.tmp 8), type := 39, pos := "law.go:163", after := #[{ on := 15, ground := Go.Ground.guard }], guard := some (15, false) }) (v := ?_) rfl (by kernel_rfl) (by kernel_rfl) (by kernel_rfl) (fun _ _ _ h => h) (Or.inl ⟨by rfl, ?_⟩) rfl ?_
                case refine_2 => (intro w hSw; (try dsimp only at hSw); subst hSw; go_simp <;> with_reducible rfl)
                try simp only [Act.put, List.setIfInBounds_toArray, List.set_cons_zero, List.set_cons_succ]
                refine wpAnyH_take (i := 28) (oi := { dst := some 95, op := Go.Op.move (Go.Operand.tmp 12), type := 3, pos := "law.go:163", after := #[{ on := 15, ground := Go.Ground.guard }], guard := some (15, false) }) (v := ?_) rfl (by kernel_rfl) (by kernel_rfl) (by kernel_rfl) (fun _ _ _ h => h) (Or.inl ⟨by rfl, ?_⟩) rfl ?_
                case refine_2 => (intro w hSw; (try dsimp only at hSw); subst hSw; go_simp <;> with_reducible rfl)
                try simp only [Act.put, List.setIfInBounds_toArray, List.set_cons_zero, List.set_cons_succ]
                refine wpAnyH_take (i := 29) (oi := { dst := some 96, op := Go.Op.indexAddr 39 (Go.Operand.tmp 94) (Go.Operand.tmp 95), type := 0, pos := "law.go:163", after := #[{ on := 27, ground := Go.Ground.data }, { on := 28, ground := Go.Ground.data }, { on := 15, ground := Go.Ground.guard }], guard := some (15, false) }) (v := ?_) rfl (by kernel_rfl) (by kernel_rfl) (by kernel_rfl) (fun _ _ _ h => h) (Or.inl ⟨by rfl, ?_⟩) rfl ?_
                case refine_2 => (intro w hSw; (try dsimp only at hSw); subst hSw; go_simp <;> with_reducible rfl)
                try simp only [Act.put, List.setIfInBounds_toArray, List.set_cons_zero, List.set_cons_succ]
                refine wpAnyH_take (i := 30) (oi := { dst := some 97, op := Go.Op.load 9 (Go.Operand.tmp 96), type := 9, pos := "law.go:163", after := #[{ on := 29, ground := Go.Ground.data }, { on := 15, ground := Go.Ground.guard }], guard := some (15, false) }) (v := ?_) rfl (by kernel_rfl) (by kernel_rfl) (by kernel_rfl) (fun _ _ _ h => h) (Or.inl ⟨by rfl, ?_⟩) rfl ?_
                case refine_2 => (intro w hSw; (try dsimp only at hSw); subst hSw; go_simp <;> with_reducible rfl)
                try simp only [Act.put, List.setIfInBounds_toArray, List.set_cons_zero, List.set_cons_succ]
                refine wpAnyH_take (i := 31) (oi := { dst := some 98, op := Go.Op.binOp Go.BinOp.neq 9 (Go.Operand.tmp 93) (Go.Operand.tmp 97) 9, type := 4, pos := "law.go:163", after := #[{ on := 26, ground := Go.Ground.data }, { on := 30, ground := Go.Ground.data }, { on := 15, ground := Go.Ground.guard }], guard := some (15, false) }) (v := ?_) rfl (by kernel_rfl) (by kernel_rfl) (by kernel_rfl) (fun _ _ _ h => h) (Or.inl ⟨by rfl, ?_⟩) rfl ?_
                case refine_2 => (intro w hSw; (try dsimp only at hSw); subst hSw; go_simp <;> with_reducible rfl)
                try simp only [Act.put, List.setIfInBounds_toArray, List.set_cons_zero, List.set_cons_succ]
                refine wpAnyH_take (i := 32) (oi := { dst := some 99, op := Go.Op.pick (Go.Operand.tmp 82) (Go.Operand.const (Go.Value.bool true)) (Go.Operand.tmp 98), type := 4, pos := "law.go:163", after := #[{ on := 15, ground := Go.Ground.data }, { on := 31, ground := Go.Ground.data }], guard := none }) (v := ?_) rfl (by kernel_rfl) (by kernel_rfl) (by kernel_rfl) (fun _ _ _ h => h) (Or.inl ⟨by rfl, ?_⟩) rfl ?_
                case refine_2 => (intro w hSw; (try dsimp only at hSw); subst hSw; go_simp <;> with_reducible rfl)
                try simp only [Act.put, List.setIfInBounds_toArray, List.set_cons_zero, List.set_cons_succ]
                refine wpAnyH_done (by kernel_rfl) ?_ _
                try clear hHeld
                go_wp2
                go_roundw
                case rel => exact ⟨j + 1, by omega, by go_num, HBX.out.drew⟩
                case measure => simp [intOf]; omega
              · obtain rfl : j = k := by omega
                go_wp2
                go_ret
                exact ⟨rfl, BW5.out.trans (HBX.out.mono BW5.out.size)⟩
      · have he2 : ¬ (eR R : Int) = 0 := by omega
        have e34 : nR R = (0, 0) := by
          cases hRR : R with
          | ok T P => rw [hRR] at he; exact absurd rfl he
          | bad c k => rfl
        have e3 : (nR R).1 = 0 := by rw [e34]
        have e4 : (nR R).2 = 0 := by rw [e34]
        clear he e34
        go_wp2
        go_ret
        exact ⟨rfl, B2.out.alloc B2.out.size _⟩
end Go.Proofs.YtmopcgmodaahkaaDoor
