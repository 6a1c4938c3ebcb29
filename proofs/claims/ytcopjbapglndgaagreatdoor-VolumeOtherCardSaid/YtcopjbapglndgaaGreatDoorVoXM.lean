/-
  A byte that is another one makes another CRC.
-/
import Derived.Test.YtcopjbapglndgaaGreatDoorMr26
namespace Go.Proofs.YtcopjbapglndgaaGreatDoor.Sha

theorem stp_zero {x : Nat} (hx : x < 4294967296) (h : stp x = 0) : x = 0 := by
  unfold stp at h
  by_cases h1 : x % 2 = 1
  · rw [if_pos h1] at h
    have e : x / 2 = 3988292384 := by
      have h2 : (x / 2 ^^^ 3988292384) ^^^ 3988292384 = 0 ^^^ 3988292384 := by rw [h]
      rw [Nat.xor_assoc, Nat.xor_self, Nat.xor_zero, Nat.zero_xor] at h2
      exact h2
    omega
  · rw [if_neg h1, Nat.xor_zero] at h
    omega
theorem stps_zero : ∀ (k : Nat) {x : Nat}, x < 4294967296 → stps k x = 0 → x = 0
  | 0, x, _, h => h
  | k + 1, x, hx, h => by
    have h2 : stps (k + 1) x = stp (stps k x) := by
      rw [show k + 1 = 1 + k by omega, stps_add]
      rfl
    rw [h2] at h
    exact stps_zero k hx (stp_zero (stps_lt k x hx) h)
theorem crc_other (c d : Nat) (l : List Nat) (hc : c < 256) (hd : d < 256) (h : c ≠ d) : crcN (c :: l) ≠ crcN (d :: l) := by
  intro e
  unfold crcN at e
  have e1 : feedAll 4294967295 (c :: l) = feedAll 4294967295 (d :: l) := by
    have h2 : (feedAll 4294967295 (c :: l) ^^^ 4294967295) ^^^ 4294967295 = (feedAll 4294967295 (d :: l) ^^^ 4294967295) ^^^ 4294967295 := by rw [e]
    rw [xor_back', xor_back'] at h2
    exact h2
  have f1 : feedAll 4294967295 (c :: l) = feedAll (feedN 4294967295 c) l := rfl
  have f2 : feedAll 4294967295 (d :: l) = feedAll (feedN 4294967295 d) l := rfl
  have hx : c ^^^ d < 256 := by
    have : c ^^^ d < 2 ^ 8 := Nat.xor_lt_two_pow (by omega) (by omega)
    simpa using this
  have f3 : feedN 4294967295 c = feedN 4294967295 d ^^^ stps 8 (c ^^^ d) := by
    unfold feedN
    rw [← stps_xor]
    congr 1
    rw [Nat.xor_assoc, Nat.xor_comm c d, ← Nat.xor_assoc d d c, Nat.xor_self, Nat.zero_xor]
  rw [f1, f2, f3, feedAll_xor, ← stps_add] at e1
  have h0 : stps (8 * l.length + 8) (c ^^^ d) = 0 := by
    obtain ⟨A, hA⟩ : ∃ A, A = feedAll (feedN 4294967295 d) l := ⟨_, rfl⟩
    rw [← hA] at e1
    have h2 : A ^^^ (A ^^^ stps (8 * l.length + 8) (c ^^^ d)) = A ^^^ A := by rw [e1]
    rw [← Nat.xor_assoc, Nat.xor_self, Nat.zero_xor] at h2
    exact h2
  have h3 := stps_zero _ (by omega) h0
  exact h (by
    have h4 : (c ^^^ d) ^^^ d = 0 ^^^ d := by rw [h3]
    rw [Nat.xor_assoc, Nat.xor_self, Nat.xor_zero, Nat.zero_xor] at h4
    exact h4)
end Go.Proofs.YtcopjbapglndgaaGreatDoor.Sha
