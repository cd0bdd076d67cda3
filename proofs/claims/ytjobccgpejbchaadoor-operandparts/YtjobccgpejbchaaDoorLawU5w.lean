/- The walk of the law OperandParts, whatever came in. -/
import Derived.Test.YtjobccgpejbchaaDoorLawU5
namespace Go.Proofs.YtjobccgpejbchaaDoor
open Go.RowKit Florin
set_option linter.unusedVariables false
set_option linter.unusedSimpArgs false

theorem shP_digs (L M : List UInt8) : isDig (shP L M).i = true ∧ isDig (shP L M).f = true := by
  unfold shP
  split
  · exact ⟨by decide, by decide⟩
  · exact ⟨isDig_dgs L, isDig_dgs M⟩
theorem shP_lens (L M : List UInt8) : (shP L M).i.length ≤ L.length + 1 ∧ (shP L M).f.length = M.length ∧ (shP L M).neg = false := by
  unfold shP
  split
  · rename_i h; rw [h.2]; exact ⟨by simp, rfl, rfl⟩
  · exact ⟨by rw [dgs_length]; omega, dgs_length M, rfl⟩
theorem bare_twice (l : List UInt8) : bare (bare l) = bare l := by
  unfold bare
  by_cases h : isDig l = true
  · rw [if_pos h, if_pos (isDig_trim l h), trim_trim]
  · rw [if_neg h]; rfl
theorem bare_lens (l : List UInt8) : (bare l).length ≤ l.length := by
  unfold bare; split
  · exact trim_length_le l
  · simp
theorem take_rt (l : List UInt8) : l.take (rt l).length = rt l := by
  obtain ⟨t, h1, _, _⟩ := rt_back l
  conv => lhs; rw [h1]
  rw [rt_app_zs, rt_rt, List.take_left]
theorem of_nought (I F : List UInt8) : ofP ⟨false, I, F⟩ 0 = ⟨bare I, F, 0⟩ := by
  unfold ofP
  rw [show kOf 0 = 0 from rfl]
  simp [zs]
theorem operandParts_walk (a : Option Addr) (len cap : Nat) (L : List UInt8) (a1 : Option Addr) (len1 cap1 : Nat) (L1 : List UInt8) (n : Int) (w : World) (hin : InB w a len cap L) (hin1 : InB w a1 len1 cap1 L1) (_he : (Lit.int .i64 n).wf = true) (ht : Tab w) :
    Calls Tryd.prog 3 #[.slice a len cap, .slice a1 len1 cap1, .int .i64 n] w fun x w' => x = .returned (.bool true) ∧ Below w.heap.size w w' := by
  by_cases h1 : len ≤ 60
  case neg => exact parts_n0 a len cap L a1 len1 cap1 L1 n w (by omega)
  by_cases h2 : len1 ≤ 60
  case neg => exact parts_n1 a len cap L a1 len1 cap1 L1 n w h1 (by omega)
  obtain ⟨Z, hZ, hz⟩ : ∃ k : Nat, k ≤ 7 ∧ bits .and .i64 n 7 = (k : Int) := and_mask n 7 (by decide)
  obtain ⟨d1, d2⟩ := shP_digs L L1
  obtain ⟨n1, n2, n3⟩ := shP_lens L L1
  rw [hin.1] at n1
  rw [hin1.1] at n2
  obtain ⟨⟨ng, I, F0⟩, hv⟩ : ∃ v, shP L L1 = v := ⟨_, rfl⟩
  rw [hv] at d1 d2 n1 n2 n3
  simp only at d1 d2 n1 n2 n3
  subst n3
  obtain ⟨F, hF⟩ : ∃ F, F0 ++ zs Z = F := ⟨_, rfl⟩
  have dF : isDig F = true := by rw [← hF, isDig_append, d2, isDig_zs]; rfl
  have lF : F.length = len1 + Z := by rw [← hF, List.length_append, zs_length]; omega
  have dR := isDig_rt dF
  have lR := rt_length_le F
  have gs : (⟨F.toArray⟩ : ByteArray).size = F.length := arr_size F
  have gd : (⟨F.toArray⟩ : ByteArray).data.toList = F := arr_list F
  have hwb := rt_all F
  have vF := val_rt F
  obtain ⟨N, hN⟩ : ∃ N : Nat, N = 200 := ⟨_, rfl⟩
  have big : ∀ q, q < F.length → val (rt F) * 10 ^ (q - (rt F).length) < 10 ^ N := by
    intro q hq
    have h3 := Nat.mul_lt_mul_of_pos_right (val_lt _ dR) (pow_pos' (q - (rt F).length))
    rw [← Nat.pow_add] at h3
    exact Nat.lt_of_lt_of_le h3 (Nat.pow_le_pow_right (by decide) (by omega))
  refine parts_w a len cap L a1 len1 cap1 L1 n w hin hin1 h1 h2 Z hz hZ I F0 hv (fun k => F0 ++ zs k) (by simp [zs]) (fun k => by rw [zs_succ, List.append_assoc]) (fun k hk => by rw [List.length_append, zs_length]; omega)
    ⟨F.toArray⟩ (by rw [hF]) (by omega) (rt F) (by rw [gd]) (rt F).length rfl (bare I) (bare F) (bare (rt F)) (F.all (· == 48)) (by rw [gd]) (fun q => dig (val (rt F) * 10 ^ (q - (rt F).length))) ?_ ?_ ?_ (by rw [gs, lF]; omega) ht ?_ ?_ ?_ ?_ ?_ ?_ ?_ ?_ ?_ ?_ ?_
  · rw [Nat.sub_self, Nat.pow_zero, Nat.mul_one, bare_dig dR]
  · intro q h3 h4 w' ht'
    rw [gs] at h4
    refine (timesN _ 10 w' (dig_len (big q h4) (by omega)) (by decide) ht').mono ?_
    rintro z w2 ⟨rfl, hb⟩
    refine ⟨?_, hb⟩
    skip
    rw [show q + 1 - (rt F).length = q - (rt F).length + 1 by omega, Nat.pow_succ, Nat.mul_assoc]
  · rw [gs, ← vF, bare_dig dF]
  · exact fun w' => of_as ⟨false, I, F⟩ 0 w' (by show I.length ≤ 900000; omega) (by show F.length ≤ 900000; omega) ⟨bare I, F, 0⟩ (of_nought I F)
  · intro w'
    refine (opV_as ⟨bare I, F, 0⟩ w').mono ?_
    rintro z w2 ⟨rfl, hb⟩
    refine ⟨?_, hb⟩
    show Ending.returned (.int .i64 (F.length : Int)) = _
    rw [lF]; simp
  · intro w'
    refine (opV_as ⟨bare I, F, 0⟩ w').mono ?_
    rintro z w2 ⟨rfl, hb⟩
    refine ⟨?_, hb⟩
    show Ending.returned (.int .i64 (F.length : Int)) = _
    rw [gs]
  · exact fun w' => opW_as ⟨bare I, F, 0⟩ w' (by show F.length ≤ 2000000; omega)
  · exact fun w' => opF_as ⟨bare I, F, 0⟩ w' (by show F.length ≤ 2000000; omega) _ rfl
  · exact fun w' => opT_as ⟨bare I, F, 0⟩ w' (by show F.length ≤ 2000000; omega) _ rfl
  · intro w'
    rw [hwb]
    cases hr : (rt F).isEmpty with
    | true =>
      refine opN_true ⟨bare I, F, 0⟩ w' (by show F.length ≤ 2000000; omega) ?_
      show bare (rt F) = []
      rw [List.isEmpty_iff.1 hr]; rfl
    | false =>
      refine opN_false ⟨bare I, F, 0⟩ w' (by show F.length ≤ 2000000; omega) (bare (rt F)) rfl ?_
      unfold bare
      rw [if_pos dR]
      exact trim_nil_of dF (by intro h; rw [h] at hr; cases hr)
  · exact fun w' => opI_as ⟨bare I, F, 0⟩ w' (by show (bare I).length ≤ 2000000; have := bare_lens I; omega) _ (bare_twice I)
  · exact fun w' => trim_B F w' (by omega)
  · intro w'
    rw [ext_take', take_rt]
    exact trim_B (rt F) w' (by omega)
  · exact fun w' => trim_B I w' (by omega)
end Go.Proofs.YtjobccgpejbchaaDoor
