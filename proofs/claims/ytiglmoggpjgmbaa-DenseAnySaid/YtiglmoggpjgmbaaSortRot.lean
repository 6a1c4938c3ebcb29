/-
  The library's rotation at package dense's lines.
-/
import Derived.Test.YtiglmoggpjgmbaaSortIns
namespace Go.Proofs.Ytiglmoggpjgmbaa
open Go.ChangeShapes Go.WideShapes Go.ChangeAt Go.RowKit Go.Joins
set_option linter.unusedVariables false

set_option maxHeartbeats 2000000 in
set_option maxRecDepth 1000000 in
theorem rotate_any (B cap a m b : Nat) (d0 d : Array LV) (cv : Value) (w0 w : World) (R : RL w0 B d0) (hs : d0.size = d.size) (S : SL w0 B d w) (ham : a < m) (hmb : m < b) (hb : b ≤ d.size) (hsz : d.size ≤ 1000000) :
    Calls Try.prog 52 #[.slice (some ⟨B, 0, none⟩) d.size cap, .int .i64 a, .int .i64 m, .int .i64 b, cv] w fun e w' => e = .returned (.tuple #[]) ∧ ∃ d', SL w0 B d' w' ∧ Rot a m b d d' := by
  have S0 : Aside (SL w0 B d w) := S
  clear S
  go_enter Try.func52, Try.ntmps52
  go_wp2_with fail
  go_loopg [10, 11] (b - a) (fun g s10 s11 wr => ∃ (i j : Nat) (dk : Array LV), s10 = .int .i64 i ∧ s11 = .int .i64 j ∧ 0 < i ∧ 0 < j ∧ i + j ≤ g ∧ Aside (SL w0 B dk wr) ∧ Aside (RotL a m b i j d dk))
  case atStart => exact ⟨m - a, b - m, d, by go_num, by go_num, by omega, by omega, by omega, S0, RotL.start (by omega) (by omega) d⟩
  case round =>
    clear S0
    obtain ⟨i, j, dk, rfl, rfl, hi, hj, hg, S1, L1⟩ := hrel
    have hds : dk.size = d.size := L1.out.size
    have hlo := L1.out.lo
    have hhi := L1.out.hi
    have hsw := fun (a b n : Nat) (h1 : a + n ≤ b) (h2 : b + n ≤ dk.size) (w : World) (S : SL w0 B dk w) => swapRange_any B cap a b n d0 dk cv w0 w R (by omega) S h1 h2 (by omega)
    rw [hds] at hsw
    by_cases hne : i = j
    · subst hne
      have e1 : ((m : Int) - (i : Int)) = ((m - i : Nat) : Int) := by omega
      have hc := hsw (m - i) m i (by omega) (by omega) wr S1.out
      have hbq : ((i : Int) != (i : Int)) = false := by simp
      clear hsw
      rw [← e1] at hc
      clear e1 hds
      go_wp2_with fail
      (with_reducible refine hc.mono ?_)
      rintro e w2 ⟨rfl, d2, S2, W2⟩
      have S3 : Aside (SL w0 B d2 w2) := S2
      have L2 : Aside (Rot a m b d d2) := L1.out.done (by omega) W2
      clear S2 W2 S1 L1
      go_wp2_with fail
      go_end0
      exact ⟨rfl, d2, S3.out, L2.out⟩
    · have hbq : ((i : Int) != (j : Int)) = true := by simp; omega
      by_cases hgt : j < i
      · have e1 : ((m : Int) - (i : Int)) = ((m - i : Nat) : Int) := by omega
        have hgz : (j : Int) < (i : Int) := by omega
        have hc := hsw (m - i) m j (by omega) (by omega) wr S1.out
        clear hsw
        rw [← e1] at hc
        clear e1 hds
        go_wp2_with fail
        (with_reducible refine hc.mono ?_)
        rintro e w2 ⟨rfl, d2, S2, W2⟩
        have S3 : Aside (SL w0 B d2 w2) := S2
        have L2 : Aside (RotL a m b (i - j) j d d2) := L1.out.left (by omega) hgt W2
        clear S2 W2 S1 L1
        go_wp2_with fail
        go_roundg (i - j + j)
        case measure => omega
        case rel => exact ⟨i - j, j, d2, by go_num, rfl, by omega, hj, Nat.le_refl _, S3, L2⟩
      · have e1 : ((m : Int) - (i : Int)) = ((m - i : Nat) : Int) := by omega
        have e2 : ((m : Int) + (j : Int) - (i : Int)) = ((m + j - i : Nat) : Int) := by omega
        have hgz : ¬ (j : Int) < (i : Int) := by omega
        have hc := hsw (m - i) (m + j - i) i (by omega) (by omega) wr S1.out
        clear hsw
        rw [← e1, ← e2] at hc
        clear e1 e2 hds
        go_wp2_with fail
        (with_reducible refine hc.mono ?_)
        rintro e w2 ⟨rfl, d2, S2, W2⟩
        have S3 : Aside (SL w0 B d2 w2) := S2
        have L2 : Aside (RotL a m b i (j - i) d d2) := L1.out.right (by omega) (by omega) W2
        clear S2 W2 S1 L1
        go_wp2_with fail
        go_roundg (i + (j - i))
        case measure => omega
        case rel => exact ⟨i, j - i, d2, rfl, by go_num, hi, by omega, Nat.le_refl _, S3, L2⟩
end Go.Proofs.Ytiglmoggpjgmbaa
