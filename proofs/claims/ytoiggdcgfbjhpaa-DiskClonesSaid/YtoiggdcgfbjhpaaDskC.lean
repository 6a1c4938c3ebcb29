/-
  Names that are ones, numbers modulo, and the i-th number of a list.
-/
import Derived.Test.YtoiggdcgfbjhpaaDskB
namespace Go.Proofs.Ytoiggdcgfbjhpaa
open Go.ChangeShapes Go.WideShapes Go.ChangeAt Go.RowKit Go.Joins
set_option linter.unusedVariables false

/-- n modulo m, never below 0. -/
def modD (n m : Int) : Int := if n.tmod m < 0 then n.tmod m + m else n.tmod m
theorem modD_range {n m : Int} (hm : 0 < m) : 0 ≤ modD n m ∧ modD n m < m := by
  have h1 := Int.tmod_lt_of_pos n hm
  have h2 : -m < n.tmod m := by
    have h3 := Int.tmod_lt_of_pos (-n) hm
    rw [Int.neg_tmod] at h3
    omega
  unfold modD
  split <;> omega

theorem modulo_any (n m : Int) (hn1 : -9223372036854775808 ≤ n) (hn2 : n ≤ 9223372036854775807) (hm : 0 < m) (hm2 : m ≤ 9223372036854775807) (w : World) :
    Calls Try.prog 32 #[.int .i64 n, .int .i64 m] w fun e w' => e = .returned (.int .i64 (modD n m)) ∧ w = w' := by
  have h1 := Int.tmod_lt_of_pos n hm
  have h2 : -m < n.tmod m := by
    have h3 := Int.tmod_lt_of_pos (-n) hm
    rw [Int.neg_tmod] at h3
    omega
  have HM : Hid (modD n m = if n.tmod m < 0 then n.tmod m + m else n.tmod m) := rfl
  obtain ⟨T, hT⟩ : ∃ T, n.tmod m = T := ⟨_, rfl⟩
  rw [hT] at h1 h2 HM
  have hm0 : m ≠ 0 := by omega
  by_cases h0 : T < 0
  · have HV : Hid (modD n m = T + m) := by rw [HM.out, if_pos h0]; rfl
    go_enter Try.func32, Try.ntmps32
    go_wp2_with fail
    go_ret
    rw [HV.out]
    exact ⟨rfl, rfl⟩
  · have HV : Hid (modD n m = T) := by rw [HM.out, if_neg h0]; rfl
    go_enter Try.func32, Try.ntmps32
    go_wp2_with fail
    go_ret
    rw [HV.out]
    exact ⟨rfl, rfl⟩

/-- A slice of ints that reads as ks. -/
structure Ks (w : World) (a : Option Addr) (cap : Nat) (ks : List Int) : Prop where
  rng : ∀ x ∈ ks, -9223372036854775808 ≤ x ∧ x ≤ 9223372036854775807
  len : ks.length ≤ cap
  most : cap ≤ maxLen
  none : a = none → ks = []
  here : ks = [] ∨ ∃ b off, a = some ⟨b, off, Option.none⟩ ∧ ∀ i (h : i < ks.length), w.cell? ⟨b, off + i, Option.none⟩ = some (.int .i64 ks[i])
def pickD (ks : List Int) (i : Nat) : Int := ks.getD (i % ks.length) 0

theorem pick_any (a : Option Addr) (cap : Nat) (ks : List Int) (i : Nat) (hi : i ≤ 9223372036854775807) (w : World) (h : Ks w a cap ks) :
    Calls Try.prog 43 #[.slice a ks.length cap, .int .i64 (i : Int)] w fun e w' => e = .returned (.int .i64 (pickD ks i)) ∧ w = w' := by
  have hlm : ks.length ≤ 9223372036854775807 := by have h1 := h.len; have h2 := h.most; unfold maxLen at h2; omega
  by_cases h0 : ks.length = 0
  · have HV : Hid (pickD ks i = 0) := by
      show _ = _
      have : ks = [] := List.eq_nil_of_length_eq_zero h0
      subst this
      simp [pickD]
    have hz : ((ks.length : Int) == 0) = true := by rw [h0]; rfl
    clear h
    go_enter Try.func43, Try.ntmps43
    go_wp2_with fail
    go_ret
    rw [HV.out]
    exact ⟨rfl, rfl⟩
  · have hz : ((ks.length : Int) == 0) = false := beq_eq_false_iff_ne.2 (by omega)
    rcases h.here with rfl | ⟨b, off, rfl, hc⟩
    · simp at h0
    obtain ⟨j, hj⟩ : ∃ j, i % ks.length = j := ⟨_, rfl⟩
    have hjl : j < ks.length := by rw [← hj]; exact Nat.mod_lt _ (by omega)
    have HV : Hid (pickD ks i = ks[j]) := by show _ = _; unfold pickD; rw [hj]; simp [hjl]
    have c := hc j hjl
    have hzj : (i : Int).tmod (ks.length : Int) = (j : Int) := by
      rw [Int.tmod_eq_emod_of_nonneg (by omega), ← hj]; rfl
    have hk0 : (0 : Int) ≤ (j : Int) := by omega
    have hk1 : (j : Int) < (ks.length : Int) := by omega
    have hl0 : ¬ (ks.length : Int) = 0 := by omega
    clear h hc hj
    generalize ks[j] = x at *
    go_enter Try.func43, Try.ntmps43
    go_wp2_with fail
    go_ret
    rw [HV.out]
    exact ⟨rfl, rfl⟩
end Go.Proofs.Ytoiggdcgfbjhpaa
