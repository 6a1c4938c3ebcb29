/-
  Numbers as bytes (layer 13): what the document says, told.
-/
namespace Go.Proofs.Ytdfgdpgffblbpaa
set_option linter.unusedVariables false

/-- A number in so many bytes, the greatest first. -/
def wideN : Nat → Nat → List Nat
  | _, 0 => []
  | v, n + 1 => wideN (v / 256) n ++ [v % 256]
/-- Bytes as a number. -/
def numN (l : List Nat) : Nat := l.foldl (fun a x => a * 256 + x) 0
theorem wideN_len : ∀ (n v : Nat), (wideN v n).length = n
  | 0, _ => rfl
  | n + 1, v => by simp [wideN, wideN_len n]
theorem wideN_byte : ∀ (n v : Nat), ∀ x ∈ wideN v n, x < 256
  | 0, _, x, hx => by simp [wideN] at hx
  | n + 1, v, x, hx => by
    rw [wideN] at hx
    rcases List.mem_append.1 hx with h | h
    · exact wideN_byte n _ x h
    · rw [List.mem_singleton.1 h]; omega
theorem numN_snoc (l : List Nat) (x : Nat) : numN (l ++ [x]) = numN l * 256 + x := by simp [numN]
theorem numN_wide : ∀ (n v : Nat), v < 256 ^ n → numN (wideN v n) = v
  | 0, v, h => by simp at h; subst h; rfl
  | n + 1, v, h => by
    rw [wideN, numN_snoc, numN_wide n (v / 256) (by rw [Nat.pow_succ] at h; omega)]
    omega
theorem numTo_lt : ∀ (l : List Nat) (a : Nat), (∀ x ∈ l, x < 256) → l.foldl (fun a x => a * 256 + x) a + 1 ≤ (a + 1) * 256 ^ l.length
  | [], a, _ => by simp
  | x :: l, a, h => by
    have h1 := numTo_lt l (a * 256 + x) fun y hy => h y (List.mem_cons_of_mem _ hy)
    have hx := h x (by simp)
    have h2 : (a * 256 + x + 1) * 256 ^ l.length ≤ ((a + 1) * 256) * 256 ^ l.length := Nat.mul_le_mul_right _ (by omega)
    rw [List.length_cons, Nat.pow_succ, List.foldl_cons]
    calc _ ≤ _ := h1
      _ ≤ _ := h2
      _ = _ := by rw [Nat.mul_assoc, Nat.mul_comm 256]
theorem numN_lt (l : List Nat) (h : ∀ x ∈ l, x < 256) : numN l < 256 ^ l.length := by
  have h1 := numTo_lt l 0 h
  simp only [Nat.zero_add, Nat.one_mul] at h1
  exact h1

/-- What an Out gets: a number, a text; none: it is spoilt. -/
def putN (v n : Int) : Option (List Nat) := if 1 ≤ n ∧ n ≤ 6 ∧ 0 ≤ v ∧ v < 256 ^ n.toNat then some (wideN v.toNat n.toNat) else none
def putT (b : List Nat) : Option (List Nat) := if b.length ≤ 255 then some (b.length :: b) else none
def addO (s p : Option (List Nat)) : Option (List Nat) := s.bind fun l => p.map fun m => l ++ m
/-- What an In gives: so many bytes, and the rest; none: it is bad. -/
def takeI (s : Option (List Nat)) (n : Int) : Option (List Nat × List Nat) := s.bind fun l => if 0 ≤ n ∧ n ≤ (l.length : Int) then some (l.take n.toNat, l.drop n.toNat) else none
def gN (s : Option (List Nat)) (n : Int) : Option (List Nat × List Nat) := if 1 ≤ n ∧ n ≤ 6 then takeI s n else none
def gT (s : Option (List Nat)) : Option (List Nat × List Nat) := (gN s 1).bind fun p => takeI (some p.2) (numN p.1 : Nat)
def ansN (s : Option (List Nat)) (n : Int) : Nat := ((gN s n).map fun p => numN p.1).getD 0
def restN (s : Option (List Nat)) (n : Int) : Option (List Nat) := (gN s n).map Prod.snd
def ansT (s : Option (List Nat)) : List Nat := ((gT s).map Prod.fst).getD []
def restT (s : Option (List Nat)) : Option (List Nat) := (gT s).map Prod.snd
def ansR (s : Option (List Nat)) (n : Int) : List Nat := ((takeI s n).map Prod.fst).getD []
def restR (s : Option (List Nat)) (n : Int) : Option (List Nat) := (takeI s n).map Prod.snd
def leftI (s : Option (List Nat)) : Nat := (s.getD []).length

theorem take_app (x r : List Nat) : takeI (some (x ++ r)) (x.length : Int) = some (x, r) := by
  simp [takeI]
theorem putN_some {v n : Int} {x : List Nat} (h : putN v n = some x) : 1 ≤ n ∧ n ≤ 6 ∧ (x.length : Int) = n ∧ (numN x : Int) = v ∧ ∀ y ∈ x, y < 256 := by
  unfold putN at h
  split at h
  · rename_i hc
    obtain ⟨h1, h2, h3, h4⟩ := hc
    cases h
    refine ⟨h1, h2, by rw [wideN_len]; omega, ?_, wideN_byte _ _⟩
    rw [numN_wide _ _ (by
      have : (v.toNat : Int) < ((256 ^ n.toNat : Nat) : Int) := by rw [Int.toNat_of_nonneg h3, Int.natCast_pow]; exact h4
      exact Int.ofNat_lt.1 this)]
    omega
  · cases h
theorem back_n {v n : Int} {x r : List Nat} (h : putN v n = some x) : (ansN (some (x ++ r)) n : Int) = v ∧ restN (some (x ++ r)) n = some r := by
  obtain ⟨h1, h2, h3, h4, _⟩ := putN_some h
  have e : gN (some (x ++ r)) n = some (x, r) := by
    unfold gN
    rw [if_pos ⟨h1, h2⟩, ← h3, take_app]
  exact ⟨by unfold ansN; rw [e]; exact h4, by unfold restN; rw [e]; rfl⟩
theorem back_t {b x r : List Nat} (h : putT b = some x) : ansT (some (x ++ r)) = b ∧ restT (some (x ++ r)) = some r := by
  unfold putT at h
  split at h
  · cases h
    have e : gT (some (b.length :: b ++ r)) = some (b, r) := by
      have e1 : gN (some (b.length :: b ++ r)) 1 = some ([b.length], b ++ r) := by
        have := take_app [b.length] (b ++ r)
        simpa [gN] using this
      unfold gT
      rw [e1]
      show takeI (some (b ++ r)) (numN [b.length] : Nat) = _
      rw [show numN [b.length] = b.length by simp [numN], take_app]
    exact ⟨by unfold ansT; rw [e]; rfl, by unfold restT; rw [e]; rfl⟩
  · cases h
theorem back_r {b r : List Nat} : ansR (some (b ++ r)) (b.length : Int) = b ∧ restR (some (b ++ r)) (b.length : Int) = some r := by
  simp [ansR, restR, take_app]
end Go.Proofs.Ytdfgdpgffblbpaa
