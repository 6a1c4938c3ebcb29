/-
  Lists of lists of bytes; filled up with noughts; the sum of sources times a row. Plain mathematics.
-/
import Derived.Test.YtdfgdpgffblbpaaVec
namespace Go.Proofs.Ytdfgdpgffblbpaa
set_option linter.unusedVariables false

theorem getD_get {l : List Nat} {j : Nat} (h : j < l.length) : l.getD j 0 = l[j] := by simp [List.getD, h]
theorem getD_high {l : List Nat} {j : Nat} (h : l.length ≤ j) : l.getD j 0 = 0 := by simp [List.getD, List.getElem?_eq_none h]
abbrev Rws := List (List Nat)
theorem getR {ls : Rws} {k : Nat} (h : k < ls.length) : ls.getD k [] = ls[k] := by simp [List.getD, h]
/-- So many bytes, with noughts behind. -/
def fillN (l : List Nat) (n : Nat) : List Nat := (List.range n).map fun j => l.getD j 0
theorem fillN_len (l : List Nat) (n : Nat) : (fillN l n).length = n := by simp [fillN]
theorem fillN_get (l : List Nat) (n j : Nat) (h : j < n) : (fillN l n).getD j 0 = l.getD j 0 := by
  rw [getD_get (by rw [fillN_len]; exact h)]; simp [fillN]
theorem fillN_byte {l : List Nat} (h : IsByte l) (n : Nat) : IsByte (fillN l n) := fun x hx => by
  obtain ⟨j, hj, rfl⟩ := List.mem_map.1 hx
  exact getD_lt h j
theorem fillN_self (l : List Nat) : fillN l l.length = l := by
  apply List.ext_getElem (fillN_len _ _)
  intro i h1 h2
  simp [fillN, h2]
def pads (rows : Rws) (N : Nat) : Rws := rows.map fun r => fillN r N
/-- The document's symbol: the sum of sources, filled up, times a row. -/
def symTo (v : Rws) (m : Nat) (row : List Nat) : Nat → List Nat
  | 0 => List.replicate m 0
  | i + 1 => plusN (symTo v m row i) (fillN (v.getD i []) m) (row.getD i 0)
theorem symTo_ok {v : Rws} {m : Nat} {row : List Nat} (hv : ∀ x ∈ v, IsByte x) : ∀ i, i ≤ v.length → (symTo v m row i).length = m ∧ IsByte (symTo v m row i)
  | 0, _ => ⟨by simp [symTo], fun n hn => by simp [symTo] at hn; omega⟩
  | i + 1, hi => by
    obtain ⟨h1, h2⟩ := symTo_ok (row := row) (m := m) hv i (by omega)
    have hb : IsByte (v.getD i []) := by
      have : v.getD i [] = v[i] := by simp [List.getD, show i < v.length by omega]
      rw [this]; exact hv _ (List.getElem_mem _)
    refine ⟨?_, plusN_byte _ _ _ h2 (fillN_byte hb m)⟩
    show (plusN _ _ _).length = m
    rw [plusN_len _ _ _ (by rw [h1, fillN_len]; exact Nat.le_refl _), h1]
end Go.Proofs.Ytdfgdpgffblbpaa
