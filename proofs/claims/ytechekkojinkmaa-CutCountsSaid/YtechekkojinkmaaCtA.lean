/-
  CutCounts, walked: rule.Count and the document's Count answer alike.
-/
import Derived.Test.YtechekkojinkmaaBytes
namespace Go.Proofs.Ytechekkojinkmaa
open Go.ChangeShapes Go.WideShapes Go.ChangeAt Go.RowKit Go.Joins
set_option linter.unusedVariables false

def i64R (z : Int) : Prop := -9223372036854775808 ≤ z ∧ z ≤ 9223372036854775807
def cntN (n s : Int) : Nat := if n < 1 ∨ s < 1 ∨ 256 < s then 0 else (n.toNat / s.toNat) + (if n.toNat % s.toNat = 0 then 0 else 1)
theorem cntN_le (n s : Int) : cntN n s ≤ n.toNat := by
  unfold cntN
  by_cases h : n < 1 ∨ s < 1 ∨ 256 < s
  · rw [if_pos h]
    omega
  · rw [if_neg h]
    have h1 : 0 < s.toNat := by omega
    have h2 := Nat.div_add_mod n.toNat s.toNat
    obtain ⟨q, hq⟩ : ∃ q, q = n.toNat / s.toNat := ⟨_, rfl⟩
    obtain ⟨r, hr⟩ : ∃ r, r = n.toNat % s.toNat := ⟨_, rfl⟩
    rw [← hq, ← hr] at h2
    rw [← hq, ← hr]
    have h3 : q ≤ s.toNat * q := Nat.le_mul_of_pos_left q h1
    split <;> omega

set_option maxHeartbeats 1000000 in
theorem count_any (n s : Int) (w : World) (hn : i64R n) (hs : i64R s) :
    Calls Try.prog 6 #[.int .i64 n, .int .i64 s] w fun e w' => e = .returned (.int .i64 (cntN n s : Nat)) ∧ w = w' := by
  obtain ⟨hn1, hn2⟩ := hn
  obtain ⟨hs1, hs2⟩ := hs
  by_cases h1 : n < 1
  · have HV : Hid (cntN n s = 0) := by show _ = _; unfold cntN; rw [if_pos (.inl h1)]
    go_enter Try.func6, Try.ntmps6
    go_wp2_with fail
    go_ret
    rw [HV.out]
    exact ⟨rfl, rfl⟩
  · by_cases h2 : s < 1
    · have HV : Hid (cntN n s = 0) := by show _ = _; unfold cntN; rw [if_pos (.inr (.inl h2))]
      go_enter Try.func6, Try.ntmps6
      go_wp2_with fail
      go_ret
      rw [HV.out]
      exact ⟨rfl, rfl⟩
    · by_cases h3 : 256 < s
      · have HV : Hid (cntN n s = 0) := by show _ = _; unfold cntN; rw [if_pos (.inr (.inr h3))]
        go_enter Try.func6, Try.ntmps6
        go_wp2_with fail
        go_ret
        rw [HV.out]
        exact ⟨rfl, rfl⟩
      · have HL := Lib.hid (cntN_le n s)
        have hV : cntN n s = (n.toNat / s.toNat) + (if n.toNat % s.toNat = 0 then 0 else 1) := by unfold cntN; rw [if_neg (by omega)]
        have hs0 : s ≠ 0 := by omega
        obtain ⟨N, rfl⟩ : ∃ N : Nat, n = (N : Int) := ⟨n.toNat, by omega⟩
        obtain ⟨S, rfl⟩ : ∃ S : Nat, s = (S : Int) := ⟨s.toNat, by omega⟩
        replace hV : cntN (N : Int) (S : Int) = (N / S) + (if N % S = 0 then 0 else 1) := hV
        have hq : ((N : Int)).tdiv (S : Int) = ((N / S : Nat) : Int) := by rw [Int.tdiv_eq_ediv_of_nonneg (by omega)]; rfl
        have hr : ((N : Int)).tmod (S : Int) = ((N % S : Nat) : Int) := by rw [Int.tmod_eq_emod_of_nonneg (by omega)]; rfl
        have hq2 : N / S ≤ N := Nat.div_le_self _ _
        obtain ⟨q, hqq⟩ : ∃ q, q = N / S := ⟨_, rfl⟩
        obtain ⟨r, hrr⟩ : ∃ r, r = N % S := ⟨_, rfl⟩
        rw [← hqq] at hq hV hq2
        rw [← hrr] at hr hV
        clear hqq hrr
        by_cases h4 : r = 0
        · rw [if_pos h4] at hV
          have HV := Lib.hid hV
          have h4z : (r : Int) = 0 := by omega
          rw [h4z] at hr
          clear hV
          go_enter Try.func6, Try.ntmps6
          go_wp2_with fail
          go_ret
          rw [HV.out]
          exact ⟨rfl, rfl⟩
        · rw [if_neg h4] at hV
          have HV := Lib.hid hV
          have h4z : (0 : Int) < (r : Int) := by omega
          have hq3 : q + 1 ≤ N := by have := HL.out; rw [hV] at this; omega
          clear hV
          go_enter Try.func6, Try.ntmps6
          go_wp2_with fail
          go_ret
          rw [HV.out]
          exact ⟨rfl, rfl⟩
theorem cnt_up {n s : Int} (h1 : 1 ≤ n) (h2 : 1 ≤ s) (h3 : s ≤ 256) : ((cntN n s : Nat) : Int) = (n - 1) / s + 1 := by
  unfold cntN
  rw [if_neg (by omega)]
  obtain ⟨N, rfl⟩ : ∃ N : Nat, n = (N : Int) := ⟨n.toNat, by omega⟩
  obtain ⟨S, rfl⟩ : ∃ S : Nat, s = (S : Int) := ⟨s.toNat, by omega⟩
  have e : ((N : Int) - 1) / (S : Int) = (((N - 1) / S : Nat) : Int) := by
    rw [show (N : Int) - 1 = ((N - 1 : Nat) : Int) by omega]; rfl
  rw [e]
  simp only [Int.toNat_natCast]
  have hS : 0 < S := by omega
  have d := Nat.div_add_mod N S
  have hm := Nat.mod_lt N hS
  obtain ⟨q, hq⟩ : ∃ q, q = N / S := ⟨_, rfl⟩
  have hr : ∃ r, r = N % S := ⟨_, rfl⟩
  rw [← hq] at d
  rw [← hq]
  by_cases h0 : N % S = 0
  · rw [if_pos h0]
    have hq0 : q ≠ 0 := by intro e; subst e; simp at d; omega
    have : (N - 1) / S = q - 1 := by
      apply Nat.div_eq_of_lt_le
      · rw [Nat.sub_mul, Nat.one_mul, Nat.mul_comm]; omega
      · rw [Nat.sub_add_cancel (by omega), Nat.mul_comm]; omega
    rw [this]; omega
  · rw [if_neg h0]
    have : (N - 1) / S = q := by
      apply Nat.div_eq_of_lt_le
      · rw [Nat.mul_comm]; omega
      · rw [Nat.add_mul, Nat.one_mul, Nat.mul_comm]; omega
    rw [this]; omega
theorem cnt_none {n s : Int} (h : n < 1 ∨ s < 1 ∨ 256 < s) : cntN n s = 0 := by unfold cntN; rw [if_pos h]
set_option maxHeartbeats 1000000 in
theorem rcount_any (n s : Int) (w : World) (hn : i64R n) (hs : i64R s) :
    Calls Try.prog 7 #[.int .i64 n, .int .i64 s] w fun e w' => e = .returned (.int .i64 (cntN n s : Nat)) ∧ w' = w := by
  obtain ⟨hn1, hn2⟩ := hn
  obtain ⟨hs1, hs2⟩ := hs
  by_cases h1 : n < 1
  · have HV : Hid (cntN n s = 0) := cnt_none (.inl h1)
    go_enter Try.func7, Try.ntmps7
    go_wp2_with fail
    go_ret
    rw [HV.out]
    exact ⟨rfl, rfl⟩
  by_cases h2 : s < 1
  · have HV : Hid (cntN n s = 0) := cnt_none (.inr (.inl h2))
    go_enter Try.func7, Try.ntmps7
    go_wp2_with fail
    go_ret
    rw [HV.out]
    exact ⟨rfl, rfl⟩
  by_cases h3 : 256 < s
  · have HV : Hid (cntN n s = 0) := cnt_none (.inr (.inr h3))
    go_enter Try.func7, Try.ntmps7
    go_wp2_with fail
    go_ret
    rw [HV.out]
    exact ⟨rfl, rfl⟩
  have HV : Hid (((cntN n s : Nat) : Int) = (n - 1) / s + 1) := cnt_up (by omega) (by omega) (by omega)
  obtain ⟨q, hq⟩ : ∃ q, q = (n - 1) / s := ⟨_, rfl⟩
  have r1 : (n - 1).tdiv s = q := by rw [Int.tdiv_eq_ediv_of_nonneg (by omega), hq]
  have r2 : (n - 1) / s = q := hq.symm
  have hq0 : 0 ≤ q := by rw [hq]; exact Int.ediv_nonneg (by omega) (by omega)
  have hq1 : q ≤ n - 1 := by rw [hq]; exact Int.ediv_le_self _ (by omega)
  have z : ¬ s = 0 := by omega
  rw [← hq] at HV
  clear hq
  go_enter Try.func7, Try.ntmps7
  go_wp2_with fail
  go_ret
  rw [HV.out]
  exact ⟨rfl, rfl⟩
theorem cutCount_any (n s : Int) (w : World) (hn : i64R n) (hs : i64R s) :
    Calls Try.prog 5 #[.int .i64 n, .int .i64 s] w fun e w' => e = .returned (.int .i64 (cntN n s : Nat)) ∧ w' = w := by
  have HR := Lib.hid (rcount_any n s w hn hs)
  go_enter Try.func5, Try.ntmps5
  go_wp2_with (go_at_call 7; refine HR.out.mono ?_; rintro e w' ⟨rfl, rfl⟩)
  go_ret
  exact ⟨rfl, rfl⟩
set_option maxHeartbeats 1000000 in
theorem awake16c_any (w : World) : Calls Try.prog 4 #[] w fun e w' => e = .returned (.bool true) ∧ w' = w := by
  have HR := cutCount_any 5 2 w ⟨by omega, by omega⟩ ⟨by omega, by omega⟩
  rw [show cntN 5 2 = 3 from rfl] at HR
  replace HR := Lib.hid HR
  go_enter Try.func4, Try.ntmps4
  go_wp2_with (go_at_call 5; refine HR.out.mono ?_; rintro e w' ⟨rfl, rfl⟩)
  go_ret
  exact ⟨rfl, rfl⟩
set_option maxHeartbeats 1000000 in
theorem cutCounts_walk (n s : Int) (w : World) (hn : i64R n) (hs : i64R s) :
    Calls Try.prog 3 #[.int .i64 n, .int .i64 s] w fun e w' => e = .returned (.bool true) ∧ Below w.heap.size w w' := by
  have HA := Lib.hid (awake16c_any w)
  have HR := cutCount_any n s w hn hs
  have HC := count_any n s w hn hs
  obtain ⟨q, hq⟩ : ∃ q, q = cntN n s := ⟨_, rfl⟩
  rw [← hq] at HR HC
  replace HR := Lib.hid HR
  replace HC := Lib.hid HC
  clear hq
  go_enter Try.func3, Try.ntmps3
  go_wp2_with (first | (go_at_call 4; refine HA.out.mono ?_; rintro e w' ⟨rfl, rfl⟩) | (go_at_call 5; refine HR.out.mono ?_; rintro e w' ⟨rfl, rfl⟩) | (go_at_call 6; refine HC.out.mono ?_; rintro e w' ⟨rfl, rfl⟩))
  go_ret
  exact ⟨rfl, Below.refl _ _⟩
end Go.Proofs.Ytechekkojinkmaa
