/-
  Layer 13's law CodecWrites: an Out, the row of bytes beside it, and the item at hand.
-/
import Derived.Test.YtdfgdpgffblbpaaCdQ
import Derived.Test.YtdfgdpgffblbpaaCdT
import Derived.Test.YtdfgdpgffblbpaaGrowN
import Derived.Test.YtdfgdpgffblbpaaKwA
namespace Go.Proofs.Ytdfgdpgffblbpaa
open Go.ChangeShapes Go.WideShapes Go.ChangeAt Go.RowKit Go.Joins
set_option linter.unusedVariables false

/-- An Out (block b) that has s, beside it a row v of one's own that reads as W, and a block p, which is neither's. -/
structure MidB (Od : (Nat → Prop) → World → Nat → Option (List Nat) → Nat → Prop) (w0 : World) (b q p : Nat) (ob : Obj) (w : World) (v : Value) (s : Option (List Nat)) (W : List Nat) : Prop where
  own : OwnB w v W
  od : ∃ X, Od X w b s q ∧ ∀ j, X j → w0.heap.size ≤ j ∧ v.ownBlock ≠ some j ∧ j ≠ p
  low : ∀ j, v.ownBlock = some j → w0.heap.size ≤ j ∧ j ≠ p
  below : Below w0.heap.size w0 w
  box : w.heap[p]? = some ob
variable {Od : (Nat → Prop) → World → Nat → Option (List Nat) → Nat → Prop}
theorem MidB.mid {w0 w : World} {b q p : Nat} {ob : Obj} {v : Value} {s : Option (List Nat)} {W : List Nat} (h : MidB Od w0 b q p ob w v s W) : Mid Od w0 b q w v s W := by
  obtain ⟨X, h1, h2⟩ := h.od
  exact ⟨h.own, ⟨X, h1, fun j hj => ⟨(h2 j hj).1, (h2 j hj).2.1⟩⟩, fun j hj => (h.low j hj).1, h.below⟩
theorem OwnB.lt {w : World} {v : Value} {l : List Nat} (h : OwnB w v l) (j : Nat) (e : v.ownBlock = some j) : j < w.heap.size := by
  rcases h.2 with ⟨e1, _⟩ | ⟨g, cap, cur, e1, _, hg, _⟩
  · rw [e1] at e; cases e
  · rw [e1] at e
    cases e
    exact (Array.getElem?_eq_some_iff.1 hg).1
theorem Mid.box (HC : OutC Od) {w0 w : World} {b q : Nat} {v : Value} {s : Option (List Nat)} {W : List Nat} (h : Mid Od w0 b q w v s W) (cs : Array Value) (t : TypeId) : MidB Od w0 b q w.heap.size (.cells cs t (0, 0)) (w.alloc (.cells cs t)) v s W := by
  have h' := h.later HC ((Below.refl _ _).alloc (Nat.le_refl _) (.cells cs t))
  obtain ⟨X, h1, h2⟩ := h.od
  refine ⟨h'.own, ⟨X, HC.keep h1 (Fr.of_below (X := fun _ => False) ((Below.refl _ _).alloc (Nat.le_refl _) _)) (fun _ _ h => h), fun j hj => ⟨(h2 j hj).1, (h2 j hj).2, ?_⟩⟩, fun j hj => ⟨h.low j hj, ?_⟩, h'.below, heap_alloc_last w _⟩
  · have := HC.lt h1 j hj
    omega
  · have := h.own.lt j hj
    omega
theorem MidB.blk {w0 w : World} {b q p : Nat} {ob : Obj} {v : Value} {s : Option (List Nat)} {W : List Nat} (h : MidB Od w0 b q p ob w v s W) : p < w.heap.size := (Array.getElem?_eq_some_iff.1 h.box).1
theorem MidB.later (HC : OutC Od) {w0 w w' : World} {b q p : Nat} {ob : Obj} {v : Value} {s : Option (List Nat)} {W : List Nat} (h : MidB Od w0 b q p ob w v s W) (k : Below w.heap.size w w') : MidB Od w0 b q p ob w' v s W := by
  obtain ⟨X, h1, h2⟩ := h.od
  exact ⟨h.own.fr (Fr.of_below (X := fun _ => False) k) (fun _ _ h => h), ⟨X, HC.keep h1 (Fr.of_below (X := fun _ => False) k) (fun _ _ h => h), h2⟩, h.low, h.below.trans (k.mono h.below.size), (k.block p h.blk).trans h.box⟩
/-- Something is put. -/
theorem MidB.put (HC : OutC Od) {w0 w : World} {b q q' p : Nat} {ob : Obj} {v : Value} {s s' : Option (List Nat)} {W : List Nat} (h : MidB Od w0 b q p ob w v s W) {f : FuncId} {args : Array Value}
    (hc : ∀ X, Od X w b s q → Calls Try.prog f args w (OutPost Od X w b s' q')) : Calls Try.prog f args w fun e w' => e = .returned (.tuple #[]) ∧ MidB Od w0 b q' p ob w' v s' W := by
  obtain ⟨X, h1, h2⟩ := h.od
  refine (hc X h1).mono ?_
  rintro e w' ⟨rfl, X', h3, h4, h5⟩
  refine ⟨rfl, h.own.fr h5 (fun j hj hX => (h2 j hX).2.1 hj), ⟨X', h3, fun j hj => ?_⟩, h.low, h.below.trans (h5.below h.below.size fun j hj hX => by have := (h2 j hX).1; omega), (h5.block p h.blk fun e => (h2 p e).2.2 rfl).trans h.box⟩
  rcases h4 j hj with h6 | h6
  · exact h2 j h6
  · have := h.below.size
    have hp := h.blk
    exact ⟨by omega, fun e => by have := h.own.lt j e; omega, by omega⟩
/-- Bytes are appended to the row. -/
theorem MidB.add (HC : OutC Od) {w0 w w' : World} {b q p : Nat} {ob : Obj} {v v' : Value} {s : Option (List Nat)} {W m : List Nat} (h : MidB Od w0 b q p ob w v s W) (h1 : OwnB w' v' (W ++ m)) (h2 : w.grownBy w' v.ownBlock) (h3 : v'.ownBlock = v.ownBlock ∨ v'.ownBlock = some w.heap.size) : MidB Od w0 b q p ob w' v' s (W ++ m) := by
  obtain ⟨X, k1, k2⟩ := h.od
  have hf : Fr (fun j => v.ownBlock = some j) w w' := Fr.of_grown h2 fun j e => e
  have hp := h.blk
  refine ⟨h1, ⟨X, HC.keep k1 hf fun j hj e => (k2 j hj).2.1 e, fun j hj => ⟨(k2 j hj).1, fun e => ?_, (k2 j hj).2.2⟩⟩, fun j hj => ?_, h.below.trans (hf.below h.below.size fun j hj e => by have := (h.low j e).1; omega), (hf.block p hp fun e => (h.low p e).2 rfl).trans h.box⟩
  · rcases h3 with h4 | h4
    · rw [h4] at e; exact (k2 j hj).2.1 e
    · rw [h4] at e
      have := HC.lt k1 j hj
      have := Option.some.inj e
      omega
  · rcases h3 with h4 | h4
    · exact h.low j (by rw [← h4]; exact hj)
    · rw [h4] at hj
      have := Option.some.inj hj
      have := h.below.size
      exact ⟨by omega, by omega⟩
theorem MidB.mono (HC : OutC Od) {w0 w : World} {b q q' p : Nat} {ob : Obj} {v : Value} {s : Option (List Nat)} {W : List Nat} (h : MidB Od w0 b q p ob w v s W) (hq : q ≤ q') : MidB Od w0 b q' p ob w v s W := by
  obtain ⟨X, h1, h2⟩ := h.od
  exact ⟨h.own, ⟨X, HC.mono h1 hq, h2⟩, h.low, h.below, h.box⟩
/-- Bytes appended, where the order is open. -/
theorem wp_addB {o : Oper} {a : Act} {K : Act → World → Prop} {Q : Exit → Act → World → Prop} (w : World) (s x : Operand)
    (ho : o.op = .call { callee := .builtin .append, args := #[s, x], argTypes := #[28, 28] })
    (v : Value) (l : List Nat) (hsv : a.eval s = v) (hown : OwnB w v l) (ga : Option Addr) (gc q : Nat) (m : List Nat) (hxv : a.eval x = .slice ga q gc) (hq : m.length = q) (hs : Sl w ga gc m) (hn : l.length + m.length ≤ 1000000)
    (h : ∀ v' w', Hid (OwnB w' v' (l ++ m)) → Hid (w.grownBy w' v.ownBlock) → Hid (v'.ownBlock = v.ownBlock ∨ v'.ownBlock = some w.heap.size) → K (a.put o.dst v') w') : o.wp Try.prog a w K Q := by
  subst hq
  obtain ⟨v', w', hr, h2, h3, h4⟩ := run_addB w o.type hown ga gc m hs hn
  unfold Oper.wp execOp
  simp only [ho, resolve, invoke, builtin, Sem.run_bind, Sem.run_pure, Result.andThen_ok, List.map_toArray, List.map_cons, List.map_nil, hsv, hxv, hr]
  exact h v' w' h2 h3 h4
end Go.Proofs.Ytdfgdpgffblbpaa
