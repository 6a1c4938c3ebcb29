/-
  Layer 13's law CodecWrites: an Out and the row of bytes beside it.
-/
import Derived.Test.YtdfgdpgffblbpaaCdP
namespace Go.Proofs.Ytdfgdpgffblbpaa
open Go.ChangeShapes Go.WideShapes Go.ChangeAt Go.RowKit Go.Joins
set_option linter.unusedVariables false

/-- An Out (block b) that has s, and beside it a row v of one's own that reads as W. -/
structure Mid (Od : (Nat → Prop) → World → Nat → Option (List Nat) → Nat → Prop) (w0 : World) (b q : Nat) (w : World) (v : Value) (s : Option (List Nat)) (W : List Nat) : Prop where
  own : OwnB w v W
  od : ∃ X, Od X w b s q ∧ ∀ j, X j → w0.heap.size ≤ j ∧ v.ownBlock ≠ some j
  low : ∀ j, v.ownBlock = some j → w0.heap.size ≤ j
  below : Below w0.heap.size w0 w
variable {Od : (Nat → Prop) → World → Nat → Option (List Nat) → Nat → Prop}
theorem Mid.later (HC : OutC Od) {w0 w w' : World} {b q : Nat} {v : Value} {s : Option (List Nat)} {W : List Nat} (h : Mid Od w0 b q w v s W) (k : Below w.heap.size w w') : Mid Od w0 b q w' v s W := by
  obtain ⟨X, h1, h2⟩ := h.od
  exact ⟨h.own.fr (Fr.of_below (X := fun _ => False) k) (fun _ _ h => h), ⟨X, HC.keep h1 (Fr.of_below (X := fun _ => False) k) (fun _ _ h => h), h2⟩, h.low, h.below.trans (k.mono h.below.size)⟩
theorem Mid.mono (HC : OutC Od) {w0 w : World} {b q q' : Nat} {v : Value} {s : Option (List Nat)} {W : List Nat} (h : Mid Od w0 b q w v s W) (hq : q ≤ q') : Mid Od w0 b q' w v s W := by
  obtain ⟨X, h1, h2⟩ := h.od
  exact ⟨h.own, ⟨X, HC.mono h1 hq, h2⟩, h.low, h.below⟩
/-- Something is put. -/
theorem Mid.put (HC : OutC Od) {w0 w : World} {b q q' : Nat} {v : Value} {s s' : Option (List Nat)} {W : List Nat} (h : Mid Od w0 b q w v s W) {f : FuncId} {args : Array Value}
    (hc : ∀ X, Od X w b s q → (∀ j, X j → w0.heap.size ≤ j) → Calls Try.prog f args w (OutPost Od X w b s' q')) : Calls Try.prog f args w fun e w' => e = .returned (.tuple #[]) ∧ Mid Od w0 b q' w' v s' W := by
  obtain ⟨X, h1, h2⟩ := h.od
  have hlt := fun j (e : v.ownBlock = some j) => (show j < w.heap.size by
    rcases h.own.2 with ⟨e1, _⟩ | ⟨g, cap, cur, e1, _, hg, _⟩
    · rw [e1] at e; cases e
    · rw [e1] at e
      cases e
      exact (Array.getElem?_eq_some_iff.1 hg).1)
  refine (hc X h1 fun j hj => (h2 j hj).1).mono ?_
  rintro e w' ⟨rfl, X', h3, h4, h5⟩
  refine ⟨rfl, h.own.fr h5 (fun j hj hX => (h2 j hX).2 hj), ⟨X', h3, fun j hj => ?_⟩, h.low, h.below.trans (h5.below h.below.size fun j hj hX => by have := (h2 j hX).1; omega)⟩
  rcases h4 j hj with h6 | h6
  · exact h2 j h6
  · have := h.below.size
    exact ⟨by omega, fun e => by have := hlt j e; omega⟩
/-- Bytes are appended to the row. -/
theorem Mid.add (HC : OutC Od) {w0 w w' : World} {b q : Nat} {v v' : Value} {s : Option (List Nat)} {W m : List Nat} (h : Mid Od w0 b q w v s W) (h1 : OwnB w' v' (W ++ m)) (h2 : w.grownBy w' v.ownBlock) (h3 : v'.ownBlock = v.ownBlock ∨ v'.ownBlock = some w.heap.size) : Mid Od w0 b q w' v' s (W ++ m) := by
  obtain ⟨X, k1, k2⟩ := h.od
  have hf : Fr (fun j => v.ownBlock = some j) w w' := Fr.of_grown h2 fun j e => e
  refine ⟨h1, ⟨X, HC.keep k1 hf fun j hj e => (k2 j hj).2 e, fun j hj => ⟨(k2 j hj).1, fun e => ?_⟩⟩, fun j hj => ?_, h.below.trans (hf.below h.below.size fun j hj e => by have := h.low j e; omega)⟩
  · rcases h3 with h4 | h4
    · rw [h4] at e; exact (k2 j hj).2 e
    · rw [h4] at e
      have := HC.lt k1 j hj
      have := Option.some.inj e
      omega
  · rcases h3 with h4 | h4
    · exact h.low j (by rw [← h4]; exact hj)
    · rw [h4] at hj
      have := Option.some.inj hj
      have := h.below.size
      omega
theorem Mid.start (HC : OutC Od) (w1 w0 : World) (k : Below w0.heap.size w0 w1) : Mid Od w0 w1.heap.size 0 (w1.alloc (.cells outZ 27)) (.slice none 0 0) (some []) [] :=
  ⟨OwnB.nil _, ⟨_, HC.zero w1, fun j hj => ⟨by have := k.size; omega, by simp [Value.ownBlock]⟩⟩, fun j hj => by simp [Value.ownBlock] at hj, k.trans (((Below.refl _ _).alloc (Nat.le_refl _) _).mono k.size)⟩
end Go.Proofs.Ytdfgdpgffblbpaa
