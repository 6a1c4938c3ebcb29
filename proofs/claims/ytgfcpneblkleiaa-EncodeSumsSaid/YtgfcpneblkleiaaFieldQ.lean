/-
  The document's powers.
-/
import Derived.Test.YtgfcpneblkleiaaFieldA
import Derived.Test.YtgfcpneblkleiaaInvMath
namespace Go.Proofs.Ytgfcpneblkleiaa
open Go.ChangeShapes Go.WideShapes Go.ChangeAt Go.RowKit
set_option linter.unusedVariables false

theorem tmod_parts (n : Int) : (0 ≤ n.tmod 255 ∧ n.tmod 255 = n % 255) ∨ (n.tmod 255 < 0 ∧ -255 < n.tmod 255 ∧ n.tmod 255 + 255 = n % 255) := by
  by_cases h : 0 ≤ n
  · left
    rw [Int.tmod_eq_emod_of_nonneg h]; omega
  · have ht : n.tmod 255 = -((-n) % 255) := by
      rw [← Int.tmod_eq_emod_of_nonneg (by omega : 0 ≤ -n), Int.neg_tmod]; omega
    rw [ht]; omega

set_option maxHeartbeats 400000 in
theorem refPow_any (a : Nat) (n : Int) (ha : a < 256) (h1 : -9223372036854775808 ≤ n) (h2 : n ≤ 9223372036854775807) (w : World) :
    Calls Try.prog 26 #[.int .u8 (a : Int), .int .i64 n] w fun e w' => e = .returned (.int .u8 ((powI a n : Nat) : Int)) ∧ w = w' := by
  by_cases h0 : n = 0
  · subst h0
    have HE := Lib.hid (show powI a 0 = 1 from rfl)
    go_enter Try.func26, Try.ntmps26
    go_wp2
    go_ret
    exact ⟨by rw [HE.out]; rfl, rfl⟩
  have hn : (n == 0) = false := by simpa using h0
  by_cases ha0 : a = 0
  · subst ha0
    have HE := Lib.hid (show powI 0 n = 0 by unfold powI; rw [if_neg h0]; rfl)
    clear h0
    have hz : (((0 : Nat) : Int) == 0) = true := rfl
    go_enter Try.func26, Try.ntmps26
    go_wp2
    go_ret
    exact ⟨by rw [HE.out]; rfl, rfl⟩
  have hz : ((a : Int) == 0) = false := by simpa using ha0
  have HE := Lib.hid (show powI a n = powN a (n % 255).toNat by unfold powI; rw [if_neg h0, if_neg ha0])
  clear h0 ha0
  obtain ⟨N, hN⟩ : ∃ N : Nat, n % 255 = N := ⟨(n % 255).toNat, by omega⟩
  have hN2 : N < 255 := by omega
  have HE2 := Lib.hid (show powI a n = powN a N by rw [HE.out, hN]; rfl)
  clear HE
  have HP := Lib.hid (tmod_parts n)
  rw [hN] at HP
  clear hN
  obtain ⟨T, hT⟩ : ∃ T : Int, n.tmod 255 = T := ⟨_, rfl⟩
  rw [hT] at HP
  rcases HP.out with ⟨hp1, hp2⟩ | ⟨hp1, hp2, hp3⟩
  · subst hp2
    clear HP
    have hd : decide ((N : Int) < 0) = false := by simp
    go_enter Try.func26, Try.ntmps26
    go_wp2
    go_loop [5, 17] (fun p i => ∃ k : Nat, k ≤ N ∧ p = .int .u8 ((powN a k : Nat) : Int) ∧ i = .int .i64 (k : Int)) (fun _ i => N - (intOf i).toNat)
    case atStart => exact ⟨0, by omega, rfl, rfl⟩
    case round =>
      obtain ⟨k, hk, rfl, rfl⟩ := hrel
      have hp := powN_lt ha k
      by_cases hlt : k < N
      · have HS := Lib.hid (show powN a (k + 1) = mulN (powN a k) a from rfl)
        generalize powN a k = P at *
        go_wp2_with (go_at_call 18; refine (refMul_any _ _ hp ha _).mono ?_; rintro e w' ⟨rfl, rfl⟩)
        go_round
        case rel => exact ⟨k + 1, by omega, by rw [HS.out], by go_num⟩
        case measure => simp [intOf]; omega
      · obtain rfl : k = N := by omega
        rw [← HE2.out]
        go_wp2
        go_ret
        exact ⟨rfl, rfl⟩
  · obtain rfl : T = (N : Int) - 255 := by omega
    clear HP hp3
    go_enter Try.func26, Try.ntmps26
    go_wp2
    go_loop [5, 17] (fun p i => ∃ k : Nat, k ≤ N ∧ p = .int .u8 ((powN a k : Nat) : Int) ∧ i = .int .i64 (k : Int)) (fun _ i => N - (intOf i).toNat)
    case atStart => exact ⟨0, by omega, rfl, rfl⟩
    case round =>
      obtain ⟨k, hk, rfl, rfl⟩ := hrel
      have hp := powN_lt ha k
      by_cases hlt : k < N
      · have HS := Lib.hid (show powN a (k + 1) = mulN (powN a k) a from rfl)
        generalize powN a k = P at *
        go_wp2_with (go_at_call 18; refine (refMul_any _ _ hp ha _).mono ?_; rintro e w' ⟨rfl, rfl⟩)
        go_round
        case rel => exact ⟨k + 1, by omega, by rw [HS.out], by go_num⟩
        case measure => simp [intOf]; omega
      · obtain rfl : k = N := by omega
        rw [← HE2.out]
        go_wp2
        go_ret
        exact ⟨rfl, rfl⟩

end Go.Proofs.Ytgfcpneblkleiaa
