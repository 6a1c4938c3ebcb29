/-
  Powers and inverses of package field, and the document's powers.
-/
import Derived.Test.YthpieolkeekihaaFieldA
namespace Go.Proofs.Ythpieolkeekihaa
open Go.ChangeShapes Go.WideShapes Go.ChangeAt Go.RowKit
set_option linter.unusedVariables false

theorem and64i (k : Nat) (hk : k < 255) : bits .and .i64 (k : Int) 1 = ((k % 2 : Nat) : Int) := and64 k (by omega)

set_option maxHeartbeats 400000 in
theorem pow_any (a : Nat) (n : Int) (ha : a < 256) (h1 : -9223372036854775808 ≤ n) (h2 : n ≤ 9223372036854775807) (w : World) :
    Calls Try.prog 12 #[.int .u8 (a : Int), .int .i64 n] w fun e w' => e = .returned (.int .u8 ((powI a n : Nat) : Int)) ∧ w = w' := by
  by_cases h0 : n = 0
  · subst h0
    have HE := Lib.hid (show powI a 0 = 1 from rfl)
    go_enter Try.func12, Try.ntmps12
    go_wp2
    go_ret
    exact ⟨by rw [HE.out]; rfl, rfl⟩
  have hn : (n == 0) = false := by simpa using h0
  by_cases ha0 : a = 0
  · subst ha0
    have HE := Lib.hid (show powI 0 n = 0 by unfold powI; rw [if_neg h0]; rfl)
    clear h0
    have hz : (((0 : Nat) : Int) == 0) = true := rfl
    go_enter Try.func12, Try.ntmps12
    go_wp2
    go_ret
    exact ⟨by rw [HE.out]; rfl, rfl⟩
  have hz : ((a : Int) == 0) = false := by simpa using ha0
  have HE := Lib.hid (show powI a n = powN a (n % 255).toNat by unfold powI; rw [if_neg h0, if_neg ha0])
  clear h0 ha0
  obtain ⟨N, hN⟩ : ∃ N : Nat, n % 255 = N := ⟨(n % 255).toNat, by omega⟩
  have hN2 : N < 255 := by omega
  have HE2 := Lib.hid (show powI a n = powN a N by rw [HE.out, hN]; rfl)
  have HN := Lib.hid hN
  clear hN HE
  go_enter Try.func12, Try.ntmps12
  go_wp2_with (go_at_call 15; refine (turns_any _ h1 h2 _).mono ?_; rintro e w' ⟨rfl, rfl⟩)
  rw [HN.out]
  go_loop [0, 5, 6] (fun x p l => ∃ A P K : Nat, A < 256 ∧ P < 256 ∧ K < 255 ∧ mulN P (powN A K) = powN a N ∧ x = .int .u8 (A : Int) ∧ p = .int .u8 (P : Int) ∧ l = .int .i64 (K : Int)) (fun _ _ l => (intOf l).toNat)
  case atStart => exact ⟨a, 1, N, ha, by omega, hN2, one_mul (powN_lt ha N), rfl, rfl, rfl⟩
  case round =>
    obtain ⟨A, P, K, hA, hP, hK, hI, rfl, rfl, rfl⟩ := hrel
    have HI := Lib.hid hI
    clear hI
    by_cases hk0 : K = 0
    · subst hk0
      have HF := Lib.hid (show P = powI a n by rw [HE2.out, ← HI.out]; exact (mul_one hP).symm)
      clear hK
      go_wp2
      go_ret
      exact ⟨ret_u8 HF.out, rfl⟩
    · have hpos : 0 < K := by omega
      have ea := and64i K hK
      have hl := mulN_lt A hA
      have hl2 := mulN_lt A hP
      by_cases hodd : K % 2 = 1
      · rw [hodd] at ea
        have HJ := Lib.hid ((pow_odd hP hA hodd).trans HI.out)
        have he : (((1 : Nat) : Int) == 1) = true := rfl
        clear hodd hk0
        go_wp2_with (go_at_call 9; refine (mul_any _ _ (by assumption) (by assumption) _).mono ?_; rintro e w' ⟨rfl, rfl⟩)
        go_round
        case rel => exact ⟨mulN A A, mulN P A, K / 2, hl, hl2, by omega, HJ.out, rfl, rfl, by first | rfl | go_num⟩
        case measure => simp [intOf]; omega
      · have hev : K % 2 = 0 := by omega
        rw [hev] at ea
        have HJ := Lib.hid ((pow_even (p := P) hA hev).trans HI.out)
        have he : (((0 : Nat) : Int) == 1) = false := rfl
        clear hodd hk0 hev
        go_wp2_with (go_at_call 9; refine (mul_any _ _ (by assumption) (by assumption) _).mono ?_; rintro e w' ⟨rfl, rfl⟩)
        go_round
        case rel => exact ⟨mulN A A, P, K / 2, hl, hP, by omega, HJ.out, rfl, rfl, by first | rfl | go_num⟩
        case measure => simp [intOf]; omega

theorem inv_any (a : Nat) (ha : a < 256) (w : World) :
    Calls Try.prog 11 #[.int .u8 (a : Int)] w fun e w' => e = .returned (.int .u8 ((powI a (-1) : Nat) : Int)) ∧ w = w' := by
  go_enter Try.func11, Try.ntmps11
  go_wp2_with (go_at_call 12; refine (pow_any _ _ ha (by omega) (by omega) _).mono ?_; rintro e w' ⟨rfl, rfl⟩)
  go_ret
  exact ⟨rfl, rfl⟩

theorem awake_any (w : World) : Calls Try.prog 7 #[] w fun e w' => e = .returned (.bool true) ∧ w = w' := by
  have e1 := mul_any 2 128 (by omega) (by omega)
  have h : mulN 2 128 = 29 := by decide +kernel
  rw [h] at e1
  clear h
  go_enter Try.func7, Try.ntmps7
  go_wp2_with (go_at_call 9; refine (e1 _).mono ?_; rintro e w' ⟨rfl, rfl⟩)
  go_ret
  exact ⟨rfl, rfl⟩

/-- The loop of the document's power. -/
theorem tmod_parts (n : Int) : (0 ≤ n.tmod 255 ∧ n.tmod 255 = n % 255) ∨ (n.tmod 255 < 0 ∧ -255 < n.tmod 255 ∧ n.tmod 255 + 255 = n % 255) := by
  by_cases h : 0 ≤ n
  · left
    rw [Int.tmod_eq_emod_of_nonneg h]; omega
  · have ht : n.tmod 255 = -((-n) % 255) := by
      rw [← Int.tmod_eq_emod_of_nonneg (by omega : 0 ≤ -n), Int.neg_tmod]; omega
    rw [ht]; omega

set_option maxHeartbeats 400000 in
theorem refPow_any (a : Nat) (n : Int) (ha : a < 256) (h1 : -9223372036854775808 ≤ n) (h2 : n ≤ 9223372036854775807) (w : World) :
    Calls Try.prog 13 #[.int .u8 (a : Int), .int .i64 n] w fun e w' => e = .returned (.int .u8 ((powI a n : Nat) : Int)) ∧ w = w' := by
  by_cases h0 : n = 0
  · subst h0
    have HE := Lib.hid (show powI a 0 = 1 from rfl)
    go_enter Try.func13, Try.ntmps13
    go_wp2
    go_ret
    exact ⟨by rw [HE.out]; rfl, rfl⟩
  have hn : (n == 0) = false := by simpa using h0
  by_cases ha0 : a = 0
  · subst ha0
    have HE := Lib.hid (show powI 0 n = 0 by unfold powI; rw [if_neg h0]; rfl)
    clear h0
    have hz : (((0 : Nat) : Int) == 0) = true := rfl
    go_enter Try.func13, Try.ntmps13
    go_wp2
    go_ret
    exact ⟨by rw [HE.out]; rfl, rfl⟩
  have hz : ((a : Int) == 0) = false := by simpa using ha0
  have HE := Lib.hid (show powI a n = powN a (n % 255).toNat by unfold powI; rw [if_neg h0, if_neg ha0])
  clear h0 ha0
  obtain ⟨N, hN⟩ : ∃ N : Nat, n % 255 = N := ⟨(n % 255).toNat, by omega⟩
  have hN2 : N < 255 := by omega
  have HE2 := Lib.hid (show powI a n = powN a N by rw [HE.out, hN]; rfl)
  clear HE
  have HP := Lib.hid (tmod_parts n)
  rw [hN] at HP
  clear hN
  obtain ⟨T, hT⟩ : ∃ T : Int, n.tmod 255 = T := ⟨_, rfl⟩
  rw [hT] at HP
  rcases HP.out with ⟨hp1, hp2⟩ | ⟨hp1, hp2, hp3⟩
  · subst hp2
    clear HP
    have hd : decide ((N : Int) < 0) = false := by simp
    go_enter Try.func13, Try.ntmps13
    go_wp2
    go_loop [5, 17] (fun p i => ∃ k : Nat, k ≤ N ∧ p = .int .u8 ((powN a k : Nat) : Int) ∧ i = .int .i64 (k : Int)) (fun _ i => N - (intOf i).toNat)
    case atStart => exact ⟨0, by omega, rfl, rfl⟩
    case round =>
      obtain ⟨k, hk, rfl, rfl⟩ := hrel
      have hp := powN_lt ha k
      by_cases hlt : k < N
      · have HS := Lib.hid (show powN a (k + 1) = mulN (powN a k) a from rfl)
        generalize powN a k = P at *
        go_wp2_with (go_at_call 10; refine (refMul_any _ _ hp ha _).mono ?_; rintro e w' ⟨rfl, rfl⟩)
        go_round
        case rel => exact ⟨k + 1, by omega, by rw [HS.out], by go_num⟩
        case measure => simp [intOf]; omega
      · obtain rfl : k = N := by omega
        rw [← HE2.out]
        go_wp2
        go_ret
        exact ⟨rfl, rfl⟩
  · obtain rfl : T = (N : Int) - 255 := by omega
    clear HP hp3
    go_enter Try.func13, Try.ntmps13
    go_wp2
    go_loop [5, 17] (fun p i => ∃ k : Nat, k ≤ N ∧ p = .int .u8 ((powN a k : Nat) : Int) ∧ i = .int .i64 (k : Int)) (fun _ i => N - (intOf i).toNat)
    case atStart => exact ⟨0, by omega, rfl, rfl⟩
    case round =>
      obtain ⟨k, hk, rfl, rfl⟩ := hrel
      have hp := powN_lt ha k
      by_cases hlt : k < N
      · have HS := Lib.hid (show powN a (k + 1) = mulN (powN a k) a from rfl)
        generalize powN a k = P at *
        go_wp2_with (go_at_call 10; refine (refMul_any _ _ hp ha _).mono ?_; rintro e w' ⟨rfl, rfl⟩)
        go_round
        case rel => exact ⟨k + 1, by omega, by rw [HS.out], by go_num⟩
        case measure => simp [intOf]; omega
      · obtain rfl : k = N := by omega
        rw [← HE2.out]
        go_wp2
        go_ret
        exact ⟨rfl, rfl⟩

theorem u8_of_wf {a : Int} (h : (Lit.int .u8 a).wf = true) : ∃ n : Nat, n < 256 ∧ a = n := by
  have hb : 0 ≤ a ∧ a ≤ 255 := by simpa [Lit.wf, IntKind.min, IntKind.max, IntKind.signed, IntKind.bits] using h
  exact ⟨a.toNat, by omega, by omega⟩
theorem i64_of_wf {a : Int} (h : (Lit.int .i64 a).wf = true) : -9223372036854775808 ≤ a ∧ a ≤ 9223372036854775807 := by
  simpa [Lit.wf, IntKind.min, IntKind.max, IntKind.signed, IntKind.bits] using h

end Go.Proofs.Ythpieolkeekihaa
