/- The walk of the law RuleReads. -/
import Derived.Test.YtcobokfccfeonaaGreatDoorMGr
import Derived.Test.YtcobokfccfeonaaGreatDoorSmB
namespace Go.Proofs.YtcobokfccfeonaaGreatDoor
open Go.RowKit Florin
set_option linter.unusedVariables false
set_option linter.unusedSimpArgs false
attribute [local go_sem ↓] Go.wp_at_zero Go.wp_at_succ

set_option maxRecDepth 100000 in
set_option maxHeartbeats 3200000 in
theorem reads_long (s : ByteArray) (w : World) (ht : Tab w) (hw : Wds w) (hs : 300 < s.size) :
    Calls Tryz.prog 6 #[.string s] w fun x w' => x = .returned (.bool true) ∧ Below w.heap.size w w' := by
  have HT := Lib.hid ht
  have HW := Lib.hid hw
  have hsi : (300 : Int) < (s.size : Int) := by omega
  clear ht hw
  go_enter Tryz.func6, Tryz.ntmps6
  go_wp2_with fail
  with_reducible refine (head6 _ HT.out HW.out).mono ?_
  rintro x w1 ⟨rfl, hb⟩
  have B1 := Lib.hid hb
  clear hb
  go_wp2
  go_ret
  exact ⟨rfl, B1.out⟩

set_option maxRecDepth 100000 in
set_option maxHeartbeats 3200000 in
theorem reads_bad1 (s : ByteArray) (w : World) (ht : Tab w) (hw : Wds w) (hs : s.size ≤ 300) (r : List UInt8) (hr : rulesP s.data.toList = .bad 1 r) :
    Calls Tryz.prog 6 #[.string s] w fun x w' => x = .returned (.bool true) ∧ Below w.heap.size w w' := by
  have HT := Lib.hid ht
  have HW := Lib.hid hw
  have HR := Lib.hid hr
  have hsi : ¬ (300 : Int) < (s.size : Int) := by omega
  clear ht hw hr
  go_enter Tryz.func6, Tryz.ntmps6
  go_wp2_with fail
  with_reducible refine (head6 _ HT.out HW.out).mono ?_
  rintro x w1 ⟨rfl, hb⟩
  have B1 := Lib.hid hb
  clear hb
  go_wp2_with fail
  with_reducible refine (parse_bad s _ (by omega) 1 r (HW.out.below B1.out) HR.out).mono ?_
  rintro x w2 ⟨rfl, hb⟩
  have B2 := Lib.hid (B1.out.trans (hb.mono B1.out.size))
  clear hb
  obtain ⟨P, hP⟩ : ∃ P : Nat, s.size - r.length = P := ⟨_, rfl⟩
  have hP1 : (0 : Int) ≤ (P : Int) := by omega
  have hP2 : (P : Int) ≤ (s.size : Int) := by omega
  rw [hP]
  clear hP
  go_wp2
  go_ret
  exact ⟨rfl, B2.out⟩

set_option maxRecDepth 100000 in
set_option maxHeartbeats 3200000 in
theorem reads_bad2 (s : ByteArray) (w : World) (ht : Tab w) (hw : Wds w) (hs : s.size ≤ 300) (r : List UInt8) (hr : rulesP s.data.toList = .bad 2 r) :
    Calls Tryz.prog 6 #[.string s] w fun x w' => x = .returned (.bool true) ∧ Below w.heap.size w w' := by
  have HT := Lib.hid ht
  have HW := Lib.hid hw
  have HR := Lib.hid hr
  have hsi : ¬ (300 : Int) < (s.size : Int) := by omega
  clear ht hw hr
  go_enter Tryz.func6, Tryz.ntmps6
  go_wp2_with fail
  with_reducible refine (head6 _ HT.out HW.out).mono ?_
  rintro x w1 ⟨rfl, hb⟩
  have B1 := Lib.hid hb
  clear hb
  go_wp2_with fail
  with_reducible refine (parse_bad s _ (by omega) 2 r (HW.out.below B1.out) HR.out).mono ?_
  rintro x w2 ⟨rfl, hb⟩
  have B2 := Lib.hid (B1.out.trans (hb.mono B1.out.size))
  clear hb
  obtain ⟨P, hP⟩ : ∃ P : Nat, s.size - r.length = P := ⟨_, rfl⟩
  have hP1 : (0 : Int) ≤ (P : Int) := by omega
  have hP2 : (P : Int) ≤ (s.size : Int) := by omega
  rw [hP]
  clear hP
  go_wp2
  go_ret
  exact ⟨rfl, B2.out⟩

set_option maxRecDepth 100000 in
set_option maxHeartbeats 3200000 in
theorem reads_bad3 (s : ByteArray) (w : World) (ht : Tab w) (hw : Wds w) (hs : s.size ≤ 300) (r : List UInt8) (hr : rulesP s.data.toList = .bad 3 r) :
    Calls Tryz.prog 6 #[.string s] w fun x w' => x = .returned (.bool true) ∧ Below w.heap.size w w' := by
  have HT := Lib.hid ht
  have HW := Lib.hid hw
  have HR := Lib.hid hr
  have hsi : ¬ (300 : Int) < (s.size : Int) := by omega
  clear ht hw hr
  go_enter Tryz.func6, Tryz.ntmps6
  go_wp2_with fail
  with_reducible refine (head6 _ HT.out HW.out).mono ?_
  rintro x w1 ⟨rfl, hb⟩
  have B1 := Lib.hid hb
  clear hb
  go_wp2_with fail
  with_reducible refine (parse_bad s _ (by omega) 3 r (HW.out.below B1.out) HR.out).mono ?_
  rintro x w2 ⟨rfl, hb⟩
  have B2 := Lib.hid (B1.out.trans (hb.mono B1.out.size))
  clear hb
  obtain ⟨P, hP⟩ : ∃ P : Nat, s.size - r.length = P := ⟨_, rfl⟩
  have hP1 : (0 : Int) ≤ (P : Int) := by omega
  have hP2 : (P : Int) ≤ (s.size : Int) := by omega
  rw [hP]
  clear hP
  go_wp2
  go_ret
  exact ⟨rfl, B2.out⟩

set_option maxRecDepth 100000 in
set_option maxHeartbeats 3200000 in
theorem reads_bad7 (s : ByteArray) (w : World) (ht : Tab w) (hw : Wds w) (hs : s.size ≤ 300) (r : List UInt8) (hr : rulesP s.data.toList = .bad 7 r) :
    Calls Tryz.prog 6 #[.string s] w fun x w' => x = .returned (.bool true) ∧ Below w.heap.size w w' := by
  have HT := Lib.hid ht
  have HW := Lib.hid hw
  have HR := Lib.hid hr
  have hsi : ¬ (300 : Int) < (s.size : Int) := by omega
  clear ht hw hr
  go_enter Tryz.func6, Tryz.ntmps6
  go_wp2_with fail
  with_reducible refine (head6 _ HT.out HW.out).mono ?_
  rintro x w1 ⟨rfl, hb⟩
  have B1 := Lib.hid hb
  clear hb
  go_wp2_with fail
  with_reducible refine (parse_bad s _ (by omega) 7 r (HW.out.below B1.out) HR.out).mono ?_
  rintro x w2 ⟨rfl, hb⟩
  have B2 := Lib.hid (B1.out.trans (hb.mono B1.out.size))
  clear hb
  obtain ⟨P, hP⟩ : ∃ P : Nat, s.size - r.length = P := ⟨_, rfl⟩
  have hP1 : (0 : Int) ≤ (P : Int) := by omega
  have hP2 : (P : Int) ≤ (s.size : Int) := by omega
  rw [hP]
  clear hP
  go_wp2
  go_ret
  exact ⟨rfl, B2.out⟩

abbrev SC (f : Nat → Bool) : Array Value := #[.bool (f 0), .bool (f 1), .bool (f 2), .bool (f 3), .bool (f 4), .bool (f 5)]
theorem SC.at (f : Nat → Bool) {c : Nat} (h : c < 6) : (SC f)[c]? = some (.bool (f c)) := by
  have hc : c = 0 ∨ c = 1 ∨ c = 2 ∨ c = 3 ∨ c = 4 ∨ c = 5 := by omega
  rcases hc with rfl | rfl | rfl | rfl | rfl | rfl <;> rfl
theorem SC.set (f : Nat → Bool) {c : Nat} (h : c < 6) : (SC f).setIfInBounds c (.bool true) = SC (fun i => if i = c then true else f i) := by
  have hc : c = 0 ∨ c = 1 ∨ c = 2 ∨ c = 3 ∨ c = 4 ∨ c = 5 := by omega
  rcases hc with rfl | rfl | rfl | rfl | rfl | rfl <;> simp [SC]
theorem seen_next {xs : List RuleT} {k : Nat} {u : RuleT} {f : Nat → Bool} (hu : xs[k]? = some u) (hf : ∀ c, c < 6 → f c = (xs.take k).any (fun u => u.cat == c)) : ∀ c, c < 6 → (if c = u.cat then true else f c) = (xs.take (k + 1)).any (fun u => u.cat == c) := by
  intro c hc
  rw [List.take_add_one, hu, List.any_append]
  by_cases h : c = u.cat
  · rw [if_pos h]; simp [h]
  · rw [if_neg h, hf c hc]
    have : (u.cat == c) = false := by simpa using fun e : u.cat = c => h e.symm
    simp [this]
theorem seen_no {xs : List RuleT} {k : Nat} {u : RuleT} (hd : (xs.map RuleT.cat).Nodup) (hk : k < xs.length) (hu : xs[k]? = some u) : (xs.take k).any (fun y => y.cat == u.cat) = false := by
  rw [List.any_eq_false]
  intro y hy
  have hs : xs = xs.take k ++ xs.drop k := (List.take_append_drop k xs).symm
  have hdr : xs.drop k = u :: xs.drop (k + 1) := by
    rw [List.drop_eq_getElem_cons hk]
    rw [List.getElem?_eq_getElem hk] at hu
    cases hu; rfl
  rw [hs, hdr, List.map_append, List.nodup_append] at hd
  intro he
  have he' : y.cat = u.cat := by simpa using he
  exact hd.2.2 _ (List.mem_map_of_mem hy) u.cat (by simp) he'
theorem ok_of {xs : List RuleT} (h : RulesF xs) : ∀ x ∈ xs, RuleOK x := by
  intro x hx
  have h1 := h.all x hx
  have h18 : (10 : Nat) ^ 18 = 1000000000000000000 := by decide
  refine ⟨h1.cat, fun a ha y hy => ?_⟩
  have h2 := (h1.rels a ha).2 y hy
  have h3 := h2.md
  refine ⟨by omega, fun z hz => ?_⟩
  have h4 := h2.rs z hz
  have h5 := h4.1
  have h6 := h4.2
  exact ⟨by omega, by omega⟩

set_option maxRecDepth 100000 in
set_option maxHeartbeats 12800000 in
theorem reads_ok (s : ByteArray) (wO : World) (ht : Tab wO) (hw : Wds wO) (hs : s.size ≤ 300) (xs : List RuleT) (r : List UInt8) (hr : rulesP s.data.toList = .ok xs r) :
    Calls Tryz.prog 6 #[.string s] wO fun x w' => x = .returned (.bool true) ∧ Below wO.heap.size wO w' := by
  have HT0 := Lib.hid ht
  have HW0 := Lib.hid hw
  have HR := Lib.hid hr
  have HF := Lib.hid (rules_ok hr)
  have HTX : Hid ((rulesT xs).length ≤ 1200) := Lib.hid (by
    have h1 := rules_txt hr
    rw [← link_rules] at h1
    rw [size_list] at h1
    omega)
  have HAG : Hid (rulesP (rulesT xs) = .ok xs []) := Lib.hid (by rw [link_rules]; exact rules_again hr)
  have hsi : ¬ (300 : Int) < (s.size : Int) := by omega
  clear ht hw hr
  go_enter Tryz.func6, Tryz.ntmps6
  go_wp2_with fail
  with_reducible refine (head6 _ HT0.out HW0.out).mono ?_
  rintro x w1 ⟨rfl, hb⟩
  have B1 := Lib.hid hb
  clear hb
  go_wp2_with fail
  with_reducible refine (parse_ok s _ (by omega) xs r (HW0.out.below B1.out) HR.out).mono ?_
  rintro x w ⟨v, rfl, hv, hb⟩
  have B0 := Lib.hid (B1.out.trans (hb.mono B1.out.size))
  have HT := Lib.hid (HT0.out.below B0.out)
  have HW := Lib.hid (HW0.out.below B0.out)
  have HV := Lib.hid hv
  obtain ⟨cs1, ho1, hl1⟩ := hv
  obtain ⟨a1, c1, rfl, hc1, hm1, f1⟩ := own_form ho1
  have F1 := Lib.hid f1
  have HL1 := Lib.hid hl1
  have m1i : (c1 : Int) ≤ 9223372036854775807 := by unfold maxLen at hm1; omega
  clear hb ho1 hl1 f1 HT0 HW0 B1 HR
  go_wp2_with fail
  go_loopw [63] (fun i wr => ∃ (k : Nat) (f : Nat → Bool), k ≤ xs.length ∧ i = .int .i64 k ∧ (∀ c, c < 6 → f c = (xs.take k).any (fun u => u.cat == c)) ∧ HeldL w [(w.heap.size, SC f)] wr) (fun i _ => xs.length - (intOf i).toNat)
  case atStart => exact ⟨0, fun _ => false, Nat.zero_le _, rfl, fun c _ => rfl, HeldL.alloc (HeldL.refl w) (w.heap.size) #[.bool false, .bool false, .bool false, .bool false, .bool false, .bool false] 42 (by simp)⟩
  case round =>
    obtain ⟨k, f, hk, rfl, hf, hh⟩ := hrel
    have HH := Lib.hid hh
    have HFF := Lib.hid hf
    clear hh hf
    by_cases hlt : k < xs.length
    · have hlti : (k : Int) < (xs.length : Int) := by omega
      obtain ⟨g1, rfl, gl1, gc1⟩ := F1.out (by omega)
      obtain ⟨u, hu⟩ : ∃ u, xs[k] = u := ⟨_, rfl⟩
      obtain ⟨d1, hA1, hd1⟩ := ListAt.get (sz := 3) (fun x c h => by obtain ⟨u, rfl, _⟩ := h; rfl) HL1.out k hlt
      rw [hu] at hA1
      have hmem : u ∈ xs := by rw [← hu]; exact List.getElem_mem hlt
      have HXK : Hid (xs[k]? = some u) := Lib.hid (by rw [List.getElem?_eq_getElem hlt, hu])
      clear hu
      have HU := Lib.hid (HF.out.all u hmem)
      have hcat := HU.out.cat
      obtain ⟨u1, rfl, cs3, ho3, hl3⟩ := hA1
      obtain ⟨a3, c3, rfl, hc3, hm3, f3⟩ := own_form ho3
      have F3 := Lib.hid f3
      have HL3 := Lib.hid hl3
      have m3i : (c3 : Int) ≤ 9223372036854775807 := by unfold maxLen at hm3; omega
      clear ho3 hl3 f3
      have er0 : wr.cell? ⟨g1, k * 3, none⟩ = some (.int .i64 ((u.cat : Nat) : Int)) := by rw [HH.out.bel.cell (show g1 < _ from gl1), gc1 _ (by omega), show cs1[k * 3]? = _ from hd1 0 (by decide)]; rfl
      have er1 : wr.cell? ⟨g1, k * 3 + 1, none⟩ = some (.slice a3 u.any.length c3) := by rw [HH.out.bel.cell (show g1 < _ from gl1), gc1 _ (by omega), show cs1[k * 3 + 1]? = _ from hd1 1 (by decide)]; rfl
      have er2 : wr.cell? ⟨g1, k * 3 + 2, none⟩ = some (S u.smp) := by rw [HH.out.bel.cell (show g1 < _ from gl1), gc1 _ (by omega), show cs1[k * 3 + 2]? = _ from hd1 2 (by decide)]; rfl
      clear hd1 gc1
      have hk3 : (0 : Int) ≤ (k : Int) := by omega
      have hkc1 : (k : Int) < (c1 : Int) := by omega
      have glr1 : g1 < wr.heap.size := Nat.lt_of_lt_of_le gl1 HH.out.bel.size
      have sfc : f u.cat = false := by rw [HFF.out _ hcat]; exact seen_no HF.out.cats hlt HXK.out
      have sc : wr.cell? ⟨w.heap.size, u.cat, none⟩ = some (.bool false) := by rw [(HH.out.f (List.Mem.head _)).cell u.cat, SC.at f hcat, sfc]
      have sz : wr.frozen? ⟨w.heap.size, u.cat, none⟩ = false := (HH.out.f (List.Mem.head _)).frozen u.cat
      have sl : w.heap.size < wr.heap.size := (HH.out.f (List.Mem.head _)).lt
      have n1 : ¬ (u.cat : Int) < 0 := by omega
      have n2 : ¬ (5 : Int) < (u.cat : Int) := by omega
      have n3 : (u.cat : Int) < 6 := by omega
      have n4 : (0 : Int) ≤ (u.cat : Int) := by omega
      obtain ⟨b5, hb5⟩ : ∃ b5 : Bool, ((u.cat : Int) == 5) = b5 := ⟨_, rfl⟩
      have hbm : ((u.any.length : Int) == 0) = b5 := by
        rw [← hb5]
        have h1 := HU.out.some
        by_cases h5 : u.cat = 5
        · rw [h1.1 h5, h5]; rfl
        · have h2 : u.any ≠ [] := fun e => h5 (h1.2 e)
          have h3 := List.length_pos_iff.2 h2
          have e1 : ((u.any.length : Int) == 0) = false := by simp; omega
          have e2 : ((u.cat : Int) == 5) = false := by simp; omega
          rw [e1, e2]
      have HX : Hid (∀ o : Obj, HeldL w [(w.heap.size, SC (fun i => if i = u.cat then true else f i))] ((wr.alloc o).setCell ⟨w.heap.size, u.cat, none⟩ (.bool true))) := Lib.hid (fun o => by rw [← SC.set f hcat]; exact HeldL.set1 (L1 := []) (L2 := []) (HeldL.skip HH.out o) u.cat (.bool true))
      have HX2 : Hid (∀ o : Obj, HeldL w [(w.heap.size, SC (fun i => if i = u.cat then true else f i))] ((wr.setCell ⟨w.heap.size, u.cat, none⟩ (.bool true)).alloc o)) := Lib.hid (fun o => by rw [← SC.set f hcat]; exact HeldL.skip (HeldL.set1 (L1 := []) (L2 := []) HH.out u.cat (.bool true)) o)
      have nw : ¬ w.heap.size = wr.heap.size := by omega
      have nw2 : ¬ wr.heap.size = w.heap.size := by omega
      clear sfc
      go_wp2_with fail
      go_loopw [10, 97] (fun u10 i wr => ∃ j : Nat, j ≤ u.any.length ∧ i = .int .i64 j ∧ HeldL w [(w.heap.size, SC (fun i => if i = u.cat then true else f i))] wr) (fun _ i _ => u.any.length - (intOf i).toNat)
      case atStart => exact ⟨0, Nat.zero_le _, rfl, by first | exact HX.out _ | exact HX2.out _⟩
      case round =>
        obtain ⟨j, hj, rfl, hh⟩ := hrel
        have HI := Lib.hid hh
        clear hh er0 er1 er2 glr1 HH HX HX2 sc sz sl nw nw2
        by_cases hlj : j < u.any.length
        · have hlji : (j : Int) < (u.any.length : Int) := by omega
          obtain ⟨g3, rfl, gl3, gc3⟩ := F3.out (by omega)
          obtain ⟨al, hal⟩ : ∃ al, u.any[j] = al := ⟨_, rfl⟩
          obtain ⟨d3, hA3, hd3⟩ := ListAt.get (sz := 1) (fun x c h => by obtain ⟨u, rfl, _⟩ := h; rfl) HL3.out j hlj
          rw [hal] at hA3
          have hma : al ∈ u.any := by rw [← hal]; exact List.getElem_mem hlj
          clear hal
          have HA := Lib.hid (HU.out.rels al hma)
          have hap : 0 < al.length := List.length_pos_iff.2 HA.out.1
          have hai : ¬ (al.length : Int) = 0 := by omega
          have hab : ((al.length : Int) == 0) = false := by simpa using hai
          obtain ⟨u3, rfl, cs5, ho5, hl5⟩ := hA3
          obtain ⟨a5, c5, rfl, hc5, hm5, f5⟩ := own_form ho5
          obtain ⟨g5, rfl, gl5, gc5⟩ := f5 hap
          have GC5 := Lib.hid gc5
          have HL5 := Lib.hid hl5
          have m5i : (c5 : Int) ≤ 9223372036854775807 := by unfold maxLen at hm5; omega
          have pr3 : wr.cell? ⟨g3, j, none⟩ = some (.slice (some ⟨g5, 0, none⟩) al.length c5) := by rw [HI.out.bel.cell (show g3 < _ from gl3), gc3 _ (by omega)]; have := hd3 0 (by decide); rw [Nat.mul_one, Nat.add_zero] at this; rw [this]; rfl
          clear ho5 hl5 gc5 hd3 gc3
          have hj3 : (0 : Int) ≤ (j : Int) := by omega
          have hjc3 : (j : Int) < (c3 : Int) := by omega
          have glr3 : g3 < wr.heap.size := Nat.lt_of_lt_of_le gl3 HI.out.bel.size
          go_wp2_with fail
          go_loopw [106] (fun i wr => ∃ l : Nat, l ≤ al.length ∧ i = .int .i64 l ∧ HeldL w [(w.heap.size, SC (fun i => if i = u.cat then true else f i))] wr) (fun i _ => al.length - (intOf i).toNat)
          case atStart => exact ⟨0, Nat.zero_le _, rfl, HI.out⟩
          case round =>
            obtain ⟨l, hl, rfl, hh⟩ := hrel
            have HJ := Lib.hid hh
            clear hh pr3 glr3 HI
            by_cases hll : l < al.length
            · have hlli : (l : Int) < (al.length : Int) := by omega
              obtain ⟨xk, hxk⟩ : ∃ xk, al[l] = xk := ⟨_, rfl⟩
              obtain ⟨d5, hA5, hd5⟩ := ListAt.get (sz := 4) (fun x c h => by obtain ⟨u, rfl, _⟩ := h; rfl) HL5.out l hll
              rw [hxk] at hA5
              have hmx : xk ∈ al := by rw [← hxk]; exact List.getElem_mem hll
              clear hxk
              have HX := Lib.hid (HA.out.2 xk hmx)
              have hrp : 0 < xk.rs.length := List.length_pos_iff.2 HX.out.ne
              have hri : ¬ (xk.rs.length : Int) = 0 := by omega
              have hrb : ((xk.rs.length : Int) == 0) = false := by simpa using hri
              have hmn : ¬ (xk.mod : Int) < 0 := by omega
              obtain ⟨u5, rfl, hr5⟩ := hA5
              obtain ⟨a7, c7, rfl, hc7, hm7, f7⟩ := own_form hr5
              obtain ⟨g7, rfl, gl7, gc7⟩ := f7 hrp
              have GC7 := Lib.hid gc7
              have m7i : (c7 : Int) ≤ 9223372036854775807 := by unfold maxLen at hm7; omega
              have q50 : wr.cell? ⟨g5, l * 4, none⟩ = some (.int .u8 ((xk.op : UInt8).toNat : Int)) := by rw [HJ.out.bel.cell (show g5 < _ from gl5), GC5.out _ (by omega), show cs5[l * 4]? = _ from hd5 0 (by decide)]; rfl
              have q51 : wr.cell? ⟨g5, l * 4 + 1, none⟩ = some (.int .i64 ((xk.mod : Nat) : Int)) := by rw [HJ.out.bel.cell (show g5 < _ from gl5), GC5.out _ (by omega), show cs5[l * 4 + 1]? = _ from hd5 1 (by decide)]; rfl
              have q52 : wr.cell? ⟨g5, l * 4 + 2, none⟩ = some (.bool xk.nt) := by rw [HJ.out.bel.cell (show g5 < _ from gl5), GC5.out _ (by omega), show cs5[l * 4 + 2]? = _ from hd5 2 (by decide)]; rfl
              have q53 : wr.cell? ⟨g5, l * 4 + 3, none⟩ = some (.slice (some ⟨g7, 0, none⟩) xk.rs.length c7) := by rw [HJ.out.bel.cell (show g5 < _ from gl5), GC5.out _ (by omega), show cs5[l * 4 + 3]? = _ from hd5 3 (by decide)]; rfl
              clear hd5 hr5 gc7
              have hl3 : (0 : Int) ≤ (l : Int) := by omega
              have hlc5 : (l : Int) < (c5 : Int) := by omega
              have glr5 : g5 < wr.heap.size := Nat.lt_of_lt_of_le gl5 HJ.out.bel.size
              go_wp2_with fail
              go_loopw [122] (fun i wr => ∃ q : Nat, q ≤ xk.rs.length ∧ i = .int .i64 q ∧ HeldL w [(w.heap.size, SC (fun i => if i = u.cat then true else f i))] wr) (fun i _ => xk.rs.length - (intOf i).toNat)
              case atStart => exact ⟨0, Nat.zero_le _, rfl, HeldL.skip HJ.out _⟩
              case round =>
                obtain ⟨q, hq, rfl, hh⟩ := hrel
                have HK := Lib.hid hh
                clear hh q50 q51 q52 q53 glr5 HJ
                by_cases hlq : q < xk.rs.length
                · have hlqi : (q : Int) < (xk.rs.length : Int) := by omega
                  obtain ⟨y, hy⟩ : ∃ y, xk.rs[q] = y := ⟨_, rfl⟩
                  obtain ⟨d7, hA7, hd7⟩ := ListAt.get (sz := 2) (fun x c h => by obtain rfl := h; rfl) (rng_list w xk.rs) q hlq
                  rw [hy] at hA7
                  have hmy : y ∈ xk.rs := by rw [← hy]; exact List.getElem_mem hlq
                  clear hy
                  have hp := HX.out.rs y hmy
                  have hp1 := hp.1
                  have hp2 := hp.2
                  clear hp
                  obtain rfl := hA7
                  have e0 : wr.cell? ⟨g7, q * 2, none⟩ = some (.int .i64 ((y.1 : Nat) : Int)) := by rw [HK.out.bel.cell (show g7 < _ from gl7), GC7.out _ (by omega), show (rngC xk.rs)[q * 2]? = _ from hd7 0 (by decide)]; rfl
                  have e1 : wr.cell? ⟨g7, q * 2 + 1, none⟩ = some (.int .i64 ((y.2 : Nat) : Int)) := by rw [HK.out.bel.cell (show g7 < _ from gl7), GC7.out _ (by omega), show (rngC xk.rs)[q * 2 + 1]? = _ from hd7 1 (by decide)]; rfl
                  clear hd7
                  have hq3 : (0 : Int) ≤ (q : Int) := by omega
                  have hqc7 : (q : Int) < (c7 : Int) := by omega
                  have glr7 : g7 < wr.heap.size := Nat.lt_of_lt_of_le gl7 HK.out.bel.size
                  have y1 : ¬ (y.1 : Int) < 0 := by omega
                  have y2 : ¬ (y.2 : Int) < (y.1 : Int) := by omega
                  have y3 : ¬ (999999999 : Int) < (y.2 : Int) := by omega
                  go_wp2
                  go_roundw
                  case rel => exact ⟨q + 1, by omega, by go_num, HeldL.skip HK.out _⟩
                  case measure => simp [intOf]; omega
                · obtain rfl : q = xk.rs.length := by omega
                  have hlqi : ¬ (xk.rs.length : Int) < (xk.rs.length : Int) := by omega
                  go_wp2
                  go_roundw
                  case rel => exact ⟨l + 1, by omega, by go_num, HK.out⟩
                  case measure => simp [intOf]; omega
            · obtain rfl : l = al.length := by omega
              have hlli : ¬ (al.length : Int) < (al.length : Int) := by omega
              go_wp2
              go_roundw
              case rel => exact ⟨j + 1, by omega, by go_num, HJ.out⟩
              case measure => simp [intOf]; omega
        · obtain rfl : j = u.any.length := by omega
          have hlji : ¬ (u.any.length : Int) < (u.any.length : Int) := by omega
          go_wp2
          go_roundw
          case rel => exact ⟨k + 1, _, by omega, by go_num, seen_next HXK.out HFF.out, HI.out⟩
          case measure => simp [intOf]; omega
    · obtain rfl : k = xs.length := by omega
      have hlti : ¬ (xs.length : Int) < (xs.length : Int) := by omega
      have htl := HTX.out
      go_wp2_with fail
      with_reducible refine (rulesS_as xs (.slice a1 xs.length c1) _ _ (HV.out.kept (grown_of_below HH.out.bel none) (Apart.none _ _)) (ok_of HF.out) (HT.out.below HH.out.bel) (HW.out.below HH.out.bel) (rulesT xs) rfl (by omega)).mono ?_
      rintro x w5 ⟨rfl, hb⟩
      have B5 := Lib.hid (HH.out.bel.trans (hb.mono HH.out.bel.size))
      clear hb
      go_wp2_with fail
      with_reducible refine (parse_ok ⟨(rulesT xs).toArray⟩ _ (by rw [arr_size]; omega) xs [] (HW.out.below B5.out) (by rw [arr_list]; exact HAG.out)).mono ?_
      rintro x w6 ⟨v2, rfl, hv2, hb⟩
      have B6 := Lib.hid (B5.out.trans (hb.mono B5.out.size))
      have HV2 := Lib.hid hv2
      clear hb hv2
      go_wp2_with fail
      with_reducible refine (same_as xs v2 (.slice a1 xs.length c1) _ _ _ HV2.out (HV.out.kept (grown_of_below B6.out none) (Apart.none _ _))).mono ?_
      rintro x w7 ⟨rfl, hb⟩
      have B7 := Lib.hid (B6.out.trans (hb.mono B6.out.size))
      clear hb
      go_wp2
      go_ret
      exact ⟨rfl, B0.out.trans (B7.out.mono B0.out.size)⟩

theorem ruleReads_walk (s : ByteArray) (w : World) (_h : s.size ≤ maxLen) (ht : Tab w) (hw : Wds w) :
    Calls Tryz.prog 6 #[.string s] w fun x w' => x = .returned (.bool true) ∧ Below w.heap.size w w' := by
  by_cases hs : s.size ≤ 300
  · cases hr : rulesP s.data.toList with
    | ok xs r => exact reads_ok s w ht hw hs xs r hr
    | bad e r =>
      have h := rules_bad (by rw [size_list]; omega) hr
      rcases h with rfl | rfl | rfl | rfl
      · exact reads_bad1 s w ht hw hs r hr
      · exact reads_bad2 s w ht hw hs r hr
      · exact reads_bad3 s w ht hw hs r hr
      · exact reads_bad7 s w ht hw hs r hr
  · exact reads_long s w ht hw (by omega)
end Go.Proofs.YtcobokfccfeonaaGreatDoor
