/-
  A symbol's places and numbers, as plain mathematics.
-/
import Derived.Test.YtgfcpneblkleiaaPreA
import Derived.Test.YtgfcpneblkleiaaRandMath
import Derived.Test.YtgfcpneblkleiaaCells
namespace Go.Proofs.Ytgfcpneblkleiaa
set_option linter.unusedVariables false

/-- From a place on, the first one that isn't taken; f looks. -/
def goN (l : List Nat) : Nat → Nat → Nat
  | a, 0 => a
  | a, f + 1 => if l.getD a 0 = 0 then a else goN l ((a + 1) % l.length) f
/-- One that isn't taken is among the next f. -/
def FreeIn (l : List Nat) (a f : Nat) : Prop := ∃ s, s < f ∧ l.getD ((a + s) % l.length) 0 = 0
theorem FreeIn.pos {l : List Nat} {a f : Nat} (h : FreeIn l a f) : 0 < f := by obtain ⟨s, h1, _⟩ := h; omega
theorem FreeIn.next {l : List Nat} {a f : Nat} (h : FreeIn l a (f + 1)) (ha : a < l.length) (h0 : l.getD a 0 ≠ 0) : FreeIn l ((a + 1) % l.length) f := by
  obtain ⟨s, h1, h2⟩ := h
  cases s with
  | zero => rw [Nat.add_zero, Nat.mod_eq_of_lt ha] at h2; exact absurd h2 h0
  | succ s =>
    refine ⟨s, by omega, ?_⟩
    rw [Nat.mod_add_mod, show a + 1 + s = a + (s + 1) by omega]; exact h2
theorem FreeIn.all {l : List Nat} {a j : Nat} (ha : a < l.length) (hj : j < l.length) (h0 : l.getD j 0 = 0) : FreeIn l a l.length := by
  by_cases h : a ≤ j
  · refine ⟨j - a, by omega, ?_⟩
    rw [show a + (j - a) = j by omega, Nat.mod_eq_of_lt hj]; exact h0
  · refine ⟨l.length + j - a, by omega, ?_⟩
    rw [show a + (l.length + j - a) = j + l.length by omega, Nat.add_mod_right, Nat.mod_eq_of_lt hj]; exact h0
theorem goN_lt {l : List Nat} : ∀ (f a : Nat), a < l.length → goN l a f < l.length
  | 0, a, h => h
  | f + 1, a, h => by
    unfold goN
    split
    · exact h
    · exact goN_lt f _ (Nat.mod_lt _ (by omega))
theorem goN_free {l : List Nat} : ∀ (f a : Nat), a < l.length → FreeIn l a f → l.getD (goN l a f) 0 = 0
  | 0, a, _, h => absurd h.pos (by omega)
  | f + 1, a, ha, h => by
    unfold goN
    split
    · rename_i h0; exact h0
    · rename_i h0; exact goN_free f _ (Nat.mod_lt _ (by omega)) (h.next ha h0)

/-- How many are taken. -/
def takenN (l : List Nat) : Nat := (l.filter fun x => x != 0).length
theorem taken_none (n : Nat) : takenN (List.replicate n 0) = 0 := by simp [takenN]
theorem taken_set : ∀ (l : List Nat) (i v : Nat), takenN (l.set i v) ≤ takenN l + 1
  | [], i, v => by simp [takenN]
  | x :: l, 0, v => by
    simp only [List.set_cons_zero, takenN, List.filter_cons]
    split <;> split <;> simp <;> omega
  | x :: l, i + 1, v => by
    have := taken_set l i v
    simp only [List.set_cons_succ, takenN, List.filter_cons] at this ⊢
    split <;> simp <;> omega
theorem taken_free : ∀ {l : List Nat}, takenN l < l.length → ∃ j, j < l.length ∧ l.getD j 0 = 0
  | [], h => by simp at h
  | x :: l, h => by
    by_cases h0 : x = 0
    · exact ⟨0, by simp, by simp [h0]⟩
    · have h1 : takenN l < l.length := by
        simp only [takenN, List.filter_cons, List.length_cons] at h ⊢
        rw [if_pos (by simpa using h0), List.length_cons] at h
        omega
      obtain ⟨j, hj, e⟩ := taken_free h1
      exact ⟨j + 1, by simpa using hj, by simpa using e⟩

/-- One more place: the state and the numbers. -/
def stepD (n : Nat) (s : Nat × List Nat) : Nat × List Nat := (nextN (nextN s.1), s.2.set (goN s.2 (nextN s.1 % n) n) (1 + nextN (nextN s.1) % 255))
def drawD (x n : Nat) : Nat → Nat × List Nat
  | 0 => (x, List.replicate n 0)
  | d + 1 => stepD n (drawD x n d)
theorem drawD_state {x : Nat} (h : x < 4294967296) (n : Nat) : ∀ d, (drawD x n d).1 < 4294967296
  | 0 => h
  | d + 1 => nextN_lt (nextN_lt (drawD_state h n d))
theorem drawD_len (x n : Nat) : ∀ d, (drawD x n d).2.length = n
  | 0 => by simp [drawD]
  | d + 1 => by
    show (List.set _ _ _).length = n
    rw [List.length_set]; exact drawD_len x n d
theorem set_byte {l : List Nat} (h : IsByte l) (i v : Nat) (hv : v < 256) : IsByte (l.set i v) := fun m hm => by
  rcases List.mem_or_eq_of_mem_set hm with h1 | h1
  · exact h m h1
  · omega
theorem drawD_byte (x n : Nat) : ∀ d, IsByte (drawD x n d).2
  | 0 => fun m hm => by have := (List.mem_replicate.1 hm).2; omega
  | d + 1 => set_byte (drawD_byte x n d) _ _ (by have := Nat.mod_lt (nextN (nextN (drawD x n d).1)) (show 0 < 255 by omega); omega)
theorem drawD_taken (x n : Nat) : ∀ d, takenN (drawD x n d).2 ≤ d
  | 0 => by show takenN (List.replicate n 0) ≤ 0; rw [taken_none]; exact Nat.le_refl _
  | d + 1 => by
    have := drawD_taken x n d
    have h2 := taken_set (drawD x n d).2 (goN (drawD x n d).2 (nextN (drawD x n d).1 % n) n) (1 + nextN (nextN (drawD x n d).1) % 255)
    show takenN (List.set _ _ _) ≤ _
    omega
theorem drawD_free (x n d a : Nat) (hd : d < n) (ha : a < n) : FreeIn (drawD x n d).2 a n := by
  have hl := drawD_len x n d
  obtain ⟨j, hj, e⟩ := taken_free (l := (drawD x n d).2) (by have := drawD_taken x n d; omega)
  have := FreeIn.all (l := (drawD x n d).2) (a := a) (by omega) hj e
  rwa [hl] at this

/-- The numbers that are drawn from a state on. -/
def drawnN (x n : Nat) : List Nat := (drawD (nextN x) n (capI (degN (nextN x % 1024)) (n : Int)).toNat).2
/-- The places of the symbol of an ID over k sources, 0 where none is. -/
def numsN (k id : Nat) : List Nat := drawnN (beginN (seedN k id)) (k + (spN k + 2))
theorem drawnN_len (x n : Nat) : (drawnN x n).length = n := drawD_len _ _ _
theorem drawnN_byte (x n : Nat) : IsByte (drawnN x n) := drawD_byte _ _ _
theorem numsN_len (k id : Nat) : (numsN k id).length = k + (spN k + 2) := drawnN_len _ _
theorem numsN_byte (k id : Nat) : IsByte (numsN k id) := drawnN_byte _ _
def picksN (k id : Nat) : Cs := cellsTo (numsN k id) (numsN k id).length
theorem cellsTo_mem {l : List Nat} {k : Nat} {p : Nat × Nat} (h : p ∈ cellsTo l k) : p.1 < k ∧ l.getD p.1 0 = p.2 ∧ p.2 ≠ 0 := by
  unfold cellsTo at h
  obtain ⟨i, hi, e⟩ := List.mem_filterMap.1 h
  have hik := List.mem_range.1 hi
  by_cases h0 : l.getD i 0 = 0
  · rw [if_pos h0] at e; cases e
  · rw [if_neg h0] at e
    cases e
    exact ⟨hik, rfl, h0⟩
theorem picksN_mem {k id : Nat} {p : Nat × Nat} (h : p ∈ picksN k id) : p.1 < k + (spN k + 2) ∧ p.2 < 256 ∧ p.2 ≠ 0 := by
  obtain ⟨h1, h2, h3⟩ := cellsTo_mem h
  rw [numsN_len] at h1
  refine ⟨h1, ?_, h3⟩
  rw [← h2]; exact getD_lt (numsN_byte k id) _

/-- A pick is added to a row. -/
def addPick (k : Nat) (row : List Nat) (p : Nat × Nat) : List Nat := if p.1 < k then row.set p.1 (row.getD p.1 0 ^^^ p.2) else plusN row (parRow k (p.1 - k)) p.2
/-- The row, the first i picks added. -/
def rowTo (k : Nat) (l : Cs) : Nat → List Nat
  | 0 => List.replicate k 0
  | i + 1 => addPick k (rowTo k l i) (l.getD i (0, 0))
theorem rowTo_ok {k : Nat} {l : Cs} (h : ∀ p ∈ l, p.2 < 256) : ∀ i, i ≤ l.length → (rowTo k l i).length = k ∧ IsByte (rowTo k l i)
  | 0, _ => ⟨by simp [rowTo], fun m hm => by have := (List.mem_replicate.1 hm).2; omega⟩
  | i + 1, hi => by
    obtain ⟨h1, h2⟩ := rowTo_ok (k := k) h i (by omega)
    have hp : (l.getD i (0, 0)).2 < 256 := by
      have : l.getD i (0, 0) = l[i] := by simp [List.getD, show i < l.length by omega]
      rw [this]; exact h _ (List.getElem_mem _)
    show (addPick k _ _).length = k ∧ IsByte (addPick k _ _)
    unfold addPick
    split
    · exact ⟨by rw [List.length_set]; exact h1, set_byte h2 _ _ (Nat.xor_lt_two_pow (n := 8) (getD_lt h2 _) hp)⟩
    · exact ⟨by rw [plusN_len _ _ _ (by rw [h1, parRow_len]; exact Nat.le_refl _), h1], plusN_byte _ _ _ h2 (parRow_byte _ _)⟩
/-- The row of the symbol of an ID. -/
def rowN (k id : Nat) : List Nat := rowTo k (picksN k id) (picksN k id).length
theorem rowN_ok (k id : Nat) : (rowN k id).length = k ∧ IsByte (rowN k id) := rowTo_ok (fun p hp => (picksN_mem hp).2.1) _ (Nat.le_refl _)
end Go.Proofs.Ytgfcpneblkleiaa
