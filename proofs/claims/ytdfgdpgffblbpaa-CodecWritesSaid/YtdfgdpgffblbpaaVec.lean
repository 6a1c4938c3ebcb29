/-
  What package vector's functions, and the document's Plus, answer of any bytes.
-/
import Derived.Test.YtdfgdpgffblbpaaFieldA
import Derived.Test.YtdfgdpgffblbpaaBytes
import Derived.StillTailTactics
namespace Go.Proofs.Ytdfgdpgffblbpaa
open Go.ChangeShapes Go.WideShapes Go.ChangeAt Go.RowKit
set_option linter.unusedVariables false

/-- c times each. -/
def scaleN (l : List Nat) (c : Nat) : List Nat := l.map fun x => mulN x c
/-- Each, and c times another. -/
def plusN (l m : List Nat) (c : Nat) : List Nat := List.zipWith (fun x y => x ^^^ mulN y c) l m

theorem scaleN_len (l : List Nat) (c : Nat) : (scaleN l c).length = l.length := by simp [scaleN]
theorem plusN_len (l m : List Nat) (c : Nat) (h : l.length ≤ m.length) : (plusN l m c).length = l.length := by simp [plusN]; omega
theorem scaleN_byte (l : List Nat) (c : Nat) (h : IsByte l) : IsByte (scaleN l c) := fun n hn => by
  obtain ⟨x, hx, rfl⟩ := List.mem_map.1 hn
  exact mulN_lt c (h x hx)
theorem plusN_get (l m : List Nat) (c k : Nat) (h : k < (plusN l m c).length) (h1 : k < l.length) (h2 : k < m.length) : (plusN l m c)[k] = l[k] ^^^ mulN m[k] c := by simp [plusN]
theorem scaleN_get (l : List Nat) (c k : Nat) (h : k < (scaleN l c).length) (h1 : k < l.length) : (scaleN l c)[k] = mulN l[k] c := by simp [scaleN]
theorem plusN_byte (l m : List Nat) (c : Nat) (h1 : IsByte l) (h2 : IsByte m) : IsByte (plusN l m c) := fun n hn => by
  obtain ⟨i, hi, rfl⟩ := List.getElem_of_mem hn
  have hi' : i < l.length ∧ i < m.length := by simp [plusN] at hi; omega
  rw [plusN_get l m c i hi hi'.1 hi'.2]
  exact xor_lt (h1 _ (List.getElem_mem _)) (mulN_lt _ (h2 _ (List.getElem_mem _)))

/-- A row that is c times m first, and l added to it up to a place. -/
def mixV (l m : List Nat) (c k j : Nat) : Value := if j < k then vOf (plusN l m c) j else vOf (scaleN m c) j
structure MixTo (W w : World) (l m : List Nat) (c k : Nat) : Prop where
  below : Below W.heap.size W w
  row : Row w W.heap.size 5 m.length m.length (mixV l m c k)
theorem MixTo.start {W w : World} {m : List Nat} {c : Nat} (l : List Nat) (h : NewTo W w (scaleN m c) m.length) : MixTo W w l m c 0 := by
  have hr := h.row
  rw [scaleN_len] at hr
  exact ⟨h.below, hr.mono (Nat.le_refl _) fun j hj => by simp [mixV]⟩
theorem MixTo.set {W w : World} {l m : List Nat} {c k : Nat} (h : MixTo W w l m c k) (he : l.length = m.length) (hk : k < m.length) {u : Value} (hu : u = vOf (plusN l m c) k) : MixTo W (w.setCell ⟨W.heap.size, k, none⟩ u) l m c (k + 1) :=
  ⟨h.below.setCell (Nat.le_refl _) _, (h.row.upd k hk u).mono (Nat.le_refl _) fun j hj => by
    by_cases e : j = k
    · subst e; simp [mixV, hu]
    · simp only [e, if_false, mixV]
      by_cases h2 : j < k
      · rw [if_pos h2, if_pos (by omega)]
      · rw [if_neg h2, if_neg (by omega)]⟩
theorem MixTo.done {W w : World} {l m : List Nat} {c : Nat} (h : MixTo W w l m c l.length) (he : l.length = m.length) : NewTo W w (plusN l m c) l.length := by
  refine ⟨h.below, ?_⟩
  rw [plusN_len l m c (by omega)]
  have hr := h.row
  rw [← he] at hr
  exact hr.mono (Nat.le_refl _) fun j hj => by simp [mixV, hj]

theorem getD_lt {l : List Nat} (h : IsByte l) (k : Nat) : l.getD k 0 < 256 := by
  by_cases hk : k < l.length
  · simp only [List.getD, List.getElem?_eq_getElem hk, Option.getD_some]; exact h _ (List.getElem_mem hk)
  · simp [List.getD, List.getElem?_eq_none (show l.length ≤ k by omega)]
end Go.Proofs.Ytdfgdpgffblbpaa
