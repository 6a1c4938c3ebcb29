/-
  Powers of package field.
-/
import Derived.Test.YtgfcpneblkleiaaFieldA
import Derived.Test.YtgfcpneblkleiaaInvMath
namespace Go.Proofs.Ytgfcpneblkleiaa
open Go.ChangeShapes Go.WideShapes Go.ChangeAt Go.RowKit
set_option linter.unusedVariables false

theorem turns_any (n : Int) (h1 : -9223372036854775808 ≤ n) (h2 : n ≤ 9223372036854775807) (w : World) :
    Calls Try.prog 47 #[.int .i64 n] w fun e w' => e = .returned (.int .i64 (n % 255)) ∧ w = w' := by
  by_cases h : 0 ≤ n
  · go_enter Try.func47, Try.ntmps47
    go_wp2
    go_ret
    exact ⟨rfl, rfl⟩
  · have ht : n.tmod 255 = -((-n) % 255) := by
      rw [← Int.tmod_eq_emod_of_nonneg (by omega : 0 ≤ -n), Int.neg_tmod]; omega
    have HN : Hid (n % 255 = if (-n) % 255 = 0 then 0 else 255 - (-n) % 255) := Lib.hid (by split <;> omega)
    have b1 : 0 ≤ (-n) % 255 := by omega
    have b2 : (-n) % 255 < 255 := by omega
    generalize (-n) % 255 = m at *
    by_cases hm : m = 0
    · subst hm
      have HE := Lib.hid (HN.out.trans (if_pos rfl))
      go_enter Try.func47, Try.ntmps47
      go_wp2
      go_ret
      exact ⟨by rw [HE.out]; rfl, rfl⟩
    · have HE := Lib.hid (HN.out.trans (if_neg hm))
      have hl : -m < 0 := by omega
      go_enter Try.func47, Try.ntmps47
      go_wp2
      go_ret
      exact ⟨by rw [HE.out]; go_num, rfl⟩

theorem and64i (k : Nat) (hk : k < 255) : bits .and .i64 (k : Int) 1 = ((k % 2 : Nat) : Int) := and64 k (by omega)

set_option maxHeartbeats 400000 in
theorem pow_any (a : Nat) (n : Int) (ha : a < 256) (h1 : -9223372036854775808 ≤ n) (h2 : n ≤ 9223372036854775807) (w : World) :
    Calls Try.prog 44 #[.int .u8 (a : Int), .int .i64 n] w fun e w' => e = .returned (.int .u8 ((powI a n : Nat) : Int)) ∧ w = w' := by
  by_cases h0 : n = 0
  · subst h0
    have HE := Lib.hid (show powI a 0 = 1 from rfl)
    go_enter Try.func44, Try.ntmps44
    go_wp2
    go_ret
    exact ⟨by rw [HE.out]; rfl, rfl⟩
  have hn : (n == 0) = false := by simpa using h0
  by_cases ha0 : a = 0
  · subst ha0
    have HE := Lib.hid (show powI 0 n = 0 by unfold powI; rw [if_neg h0]; rfl)
    clear h0
    have hz : (((0 : Nat) : Int) == 0) = true := rfl
    go_enter Try.func44, Try.ntmps44
    go_wp2
    go_ret
    exact ⟨by rw [HE.out]; rfl, rfl⟩
  have hz : ((a : Int) == 0) = false := by simpa using ha0
  have HE := Lib.hid (show powI a n = powN a (n % 255).toNat by unfold powI; rw [if_neg h0, if_neg ha0])
  clear h0 ha0
  obtain ⟨N, hN⟩ : ∃ N : Nat, n % 255 = N := ⟨(n % 255).toNat, by omega⟩
  have hN2 : N < 255 := by omega
  have HE2 := Lib.hid (show powI a n = powN a N by rw [HE.out, hN]; rfl)
  have HN := Lib.hid hN
  clear hN HE
  go_enter Try.func44, Try.ntmps44
  go_wp2_with (go_at_call 47; refine (turns_any _ h1 h2 _).mono ?_; rintro e w' ⟨rfl, rfl⟩)
  rw [HN.out]
  go_loop [0, 5, 6] (fun x p l => ∃ A P K : Nat, A < 256 ∧ P < 256 ∧ K < 255 ∧ mulN P (powN A K) = powN a N ∧ x = .int .u8 (A : Int) ∧ p = .int .u8 (P : Int) ∧ l = .int .i64 (K : Int)) (fun _ _ l => (intOf l).toNat)
  case atStart => exact ⟨a, 1, N, ha, by omega, hN2, one_mul (powN_lt ha N), rfl, rfl, rfl⟩
  case round =>
    obtain ⟨A, P, K, hA, hP, hK, hI, rfl, rfl, rfl⟩ := hrel
    have HI := Lib.hid hI
    clear hI
    by_cases hk0 : K = 0
    · subst hk0
      have HF := Lib.hid (show P = powI a n by rw [HE2.out, ← HI.out]; exact (mul_one hP).symm)
      clear hK
      go_wp2
      go_ret
      exact ⟨ret_u8 HF.out, rfl⟩
    · have hpos : 0 < K := by omega
      have ea := and64i K hK
      have hl := mulN_lt A hA
      have hl2 := mulN_lt A hP
      by_cases hodd : K % 2 = 1
      · rw [hodd] at ea
        have HJ := Lib.hid ((pow_odd hP hA hodd).trans HI.out)
        have he : (((1 : Nat) : Int) == 1) = true := rfl
        clear hodd hk0
        go_wp2_with (go_at_call 37; refine (mul_any _ _ (by assumption) (by assumption) _).mono ?_; rintro e w' ⟨rfl, rfl⟩)
        go_round
        case rel => exact ⟨mulN A A, mulN P A, K / 2, hl, hl2, by omega, HJ.out, rfl, rfl, by first | rfl | go_num⟩
        case measure => simp [intOf]; omega
      · have hev : K % 2 = 0 := by omega
        rw [hev] at ea
        have HJ := Lib.hid ((pow_even (p := P) hA hev).trans HI.out)
        have he : (((0 : Nat) : Int) == 1) = false := rfl
        clear hodd hk0 hev
        go_wp2_with (go_at_call 37; refine (mul_any _ _ (by assumption) (by assumption) _).mono ?_; rintro e w' ⟨rfl, rfl⟩)
        go_round
        case rel => exact ⟨mulN A A, P, K / 2, hl, hP, by omega, HJ.out, rfl, rfl, by first | rfl | go_num⟩
        case measure => simp [intOf]; omega

end Go.Proofs.Ytgfcpneblkleiaa
