/-
  The document's Symbol.
-/
import Derived.Test.YtdajninlghhdfaaMat
import Derived.Test.YtdajninlghhdfaaGrow
namespace Go.Proofs.Ytdajninlghhdfaa
open Go.ChangeShapes Go.WideShapes Go.ChangeAt Go.RowKit Go.Joins
set_option linter.unusedVariables false

theorem zeros_arr (n : Nat) : rowArr n zV = rowArr n (vOf (List.replicate n 0)) := by
  apply Array.ext
  · simp [rowArr]
  · intro i h1 h2
    have hi : i < n := by simpa [rowArr] using h1
    simp [rowArr, zV, vOf, byteV, hi]
theorem zeros_new (w : World) (n : Nat) : NewTo w (w.alloc (.cells (rowArr n zV) 5)) (List.replicate n 0) n :=
  NewTo.of_whole (by simp) ((Below.refl _ _).alloc (Nat.le_refl _) _) (by rw [← zeros_arr]; exact heap_alloc_new w _)
theorem zeros_byte (n : Nat) : IsByte (List.replicate n 0) := fun x hx => by
  have := (List.mem_replicate.1 hx).2; omega
theorem zeros_rw (B : Nat) (w : World) (n : Nat) (h : n ≤ 1000000) : Rw B (w.alloc (.cells (rowArr n zV) 5)) (some ⟨w.heap.size, 0, none⟩) n (List.replicate n 0) := by
  have := Rw.of_new (B := B) (by rw [List.length_replicate]; exact zeros_new w n) (zeros_byte n) (by rw [List.length_replicate]; exact h)
  rw [List.length_replicate] at this
  exact this

theorem rw_of {B : Nat} {W w : World} {m : List Nat} {n : Nat} (h : NewTo W w m n) (hl : m.length = n) (hb : IsByte m) (hm : n ≤ 1000000) : Rw B w (some ⟨W.heap.size, 0, none⟩) n m := by
  subst hl
  exact Rw.of_new h hb hm

def SymPost (v : Rws) (m : Nat) (row : List Nat) (w : World) (e : Ending) (w' : World) : Prop :=
  ∃ g, e = .returned (.slice (some ⟨g, 0, none⟩) m m) ∧ Rw w.heap.size w' (some ⟨g, 0, none⟩) m (symTo v m row v.length) ∧ Below w.heap.size w w'

theorem cell_up {w : World} {p : Addr} {u : Value} (h : w.cell? p = some u) : ∀ d os, (Sort.grow (redrawn w d) os).cell? p = some u := fun d os => by
  rw [(below_regrown w d os).cell (World.block_lt_of_cell? w p h)]; exact h

end Go.Proofs.Ytdajninlghhdfaa
