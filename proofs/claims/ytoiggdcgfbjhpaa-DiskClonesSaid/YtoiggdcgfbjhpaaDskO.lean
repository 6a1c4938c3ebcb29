/-
  Changes of names that wait, in memory; settle.
-/
import Derived.Test.YtoiggdcgfbjhpaaDskN
import Derived.Test.YtoiggdcgfbjhpaaGrowU
namespace Go.Proofs.Ytoiggdcgfbjhpaa
open Go.ChangeShapes Go.WideShapes Go.ChangeAt Go.RowKit Go.Joins
set_option linter.unusedVariables false

/-- Blocks that X does not name stay. -/
structure Fr (X : Nat → Prop) (w w' : World) : Prop where
  os : w'.os = w.os
  tape : w'.tape = w.tape
  output : w'.output = w.output
  size : w.heap.size ≤ w'.heap.size
  block : ∀ k, k < w.heap.size → ¬ X k → w'.heap[k]? = w.heap[k]?
theorem Fr.refl (X : Nat → Prop) (w : World) : Fr X w w := ⟨rfl, rfl, rfl, Nat.le_refl _, fun _ _ _ => rfl⟩
theorem Fr.trans {X : Nat → Prop} {a b c : World} (h : Fr X a b) (k : Fr X b c) : Fr X a c :=
  ⟨k.os.trans h.os, k.tape.trans h.tape, k.output.trans h.output, Nat.le_trans h.size k.size, fun i hi hx => (k.block i (Nat.lt_of_lt_of_le hi h.size) hx).trans (h.block i hi hx)⟩
theorem Fr.mono {X Y : Nat → Prop} {w w' : World} (h : Fr X w w') (hs : ∀ k, k < w.heap.size → X k → Y k) : Fr Y w w' := ⟨h.os, h.tape, h.output, h.size, fun k hk hy => h.block k hk fun hx => hy (hs k hk hx)⟩
theorem Fr.of_below {X : Nat → Prop} {w w' : World} (h : Below w.heap.size w w') : Fr X w w' := ⟨h.os, h.tape, h.output, h.size, fun k hk _ => h.block k hk⟩
theorem Fr.below {X : Nat → Prop} {B : Nat} {w w' : World} (h : Fr X w w') (hB : B ≤ w.heap.size) (hx : ∀ k, k < B → ¬ X k) : Below B w w' := ⟨h.os, h.tape, h.output, h.size, fun k hk => h.block k (by omega) (hx k hk)⟩
theorem Fr.set {X : Nat → Prop} {a w : World} (h : Fr X a w) {p : Addr} (hp : p.block < a.heap.size → X p.block) (u : Value) : Fr X a (w.setCell p u) :=
  ⟨h.os, h.tape, h.output, by simpa using h.size, fun k hk hx => by
    rw [Below.heap_setCell _ _ _ _ fun e => hx (by subst e; exact hp hk)]
    exact h.block k hk hx⟩
theorem Fr.setRow {X : Nat → Prop} {a w : World} (h : Fr X a w) {g : Nat} (hp : g < a.heap.size → X g) (cs : Array Value) : Fr X a (w.setRow g cs) :=
  ⟨h.os, h.tape, h.output, by simpa [World.setRow] using h.size, fun k hk hx => by
    rw [Go.setRow_other _ _ _ _ fun e => hx (by subst e; exact hp hk)]
    exact h.block k hk hx⟩
theorem Fr.later {X : Nat → Prop} {a w w' : World} (h : Fr X a w) (k : Below w.heap.size w w') : Fr X a w' := h.trans (Fr.of_below k)


theorem Fr.of_only {B : Nat} {X : Nat → Prop} {w w' : World} (h : Only B w w') (hx : X B) : Fr X w w' := ⟨h.os, h.tape, h.output, Nat.le_of_eq h.size.symm, fun k _ hk => h.block k fun e => hk (by rw [e]; exact hx)⟩
theorem Fr.of_grown {X : Nat → Prop} {w w' : World} {row : Option Nat} (h : w.grownBy w' row) (hx : ∀ b, row = some b → X b) : Fr X w w' := ⟨h.os, h.tape, h.output, h.size, fun k hk hn => h.block k hk fun e => hn (hx k e.symm)⟩
theorem DkAt.fr {X : Nat → Prop} {w w' : World} {B : Nat} {x : Dk} (h : DkAt w B x) (k : Fr X w w') (hx : ¬ X B) : DkAt w' B x := ⟨(k.block B h.lt hx).trans h.blk, h.ok⟩

def encC (l : List (Value × Chg)) : List Value := l.flatMap fun x => [x.1, .string x.2.src, .string x.2.dst]
theorem encC_len (l : List (Value × Chg)) : (encC l).length = l.length * 3 := by
  induction l with
  | nil => rfl
  | cons x l ih => simp [encC] at ih ⊢; omega
theorem encC_at {l : List (Value × Chg)} : ∀ {k : Nat} (h : k < l.length), (encC l)[k * 3]? = some l[k].1 ∧ (encC l)[k * 3 + 1]? = some (.string l[k].2.src) ∧ (encC l)[k * 3 + 2]? = some (.string l[k].2.dst) := by
  induction l with
  | nil => intro k h; simp at h
  | cons x l ih =>
    intro k h
    cases k with
    | zero => simp [encC]
    | succ k =>
      have := ih (k := k) (by simpa using h)
      have e : (k + 1) * 3 = k * 3 + 3 := by omega
      simp only [encC, List.flatMap_cons, List.cons_append, List.nil_append, e, List.getElem_cons_succ, List.getElem?_cons_succ] at this ⊢
      exact this
/-- Changes that wait. -/
structure Wts (ι : Nat → Option Nat) (w : World) (a : Option Addr) (len cap : Nat) (l : List (Value × Chg)) : Prop where
  row : w.ownsRow 0 61 3 (.slice a len cap) len (encC l)
  len : l.length = len
  ptr : ∀ x ∈ l, fileR ι x.1 = some (idD x.2.made, [])
  src : ∀ x ∈ l, x.2.src.size ≤ maxLen ∧ x.2.dst.size ≤ maxLen
theorem Wts.some {ι : Nat → Option Nat} {w : World} {a : Option Addr} {len cap : Nat} {l : List (Value × Chg)} (h : Wts ι w a len cap l) (h0 : 0 < len) : ∃ g cur, a = Option.some ⟨g, 0, none⟩ ∧ w.heap[g]? = Option.some (.cells cur 61 (0, 0)) := by
  rcases h.row.2 with ⟨_, h9⟩ | ⟨g, cap', cur, hv, _, hg, _⟩
  · omega
  · cases hv
    exact ⟨g, cur, rfl, hg⟩
theorem Wts.cells {ι : Nat → Option Nat} {w : World} {g len cap : Nat} {l : List (Value × Chg)} (h : Wts ι w (Option.some ⟨g, 0, none⟩) len cap l) {k : Nat} (hk : k < l.length) :
    w.cell? ⟨g, k * 3, none⟩ = Option.some l[k].1 ∧ w.cell? ⟨g, k * 3 + 1, none⟩ = Option.some (.string l[k].2.src) ∧ w.cell? ⟨g, k * 3 + 2, none⟩ = Option.some (.string l[k].2.dst) := by
  obtain ⟨e0, e1, e2⟩ := encC_at hk
  have hl := h.len
  have hc := fun j => h.row.cellAt j
  refine ⟨?_, ?_, ?_⟩
  · rw [h.row.cellAt _ (by omega)]; exact e0
  · rw [h.row.cellAt _ (by omega)]; exact e1
  · rw [h.row.cellAt _ (by omega)]; exact e2
theorem Wts.fr {X : Nat → Prop} {ι : Nat → Option Nat} {w w' : World} {a : Option Addr} {len cap : Nat} {l : List (Value × Chg)} (h : Wts ι w a len cap l) (k : Fr X w w') (hx : ∀ p, a = Option.some p → ¬ X p.block) : Wts ι w' a len cap l := by
  refine ⟨⟨h.row.1, ?_⟩, h.len, h.ptr, h.src⟩
  rcases h.row.2 with h1 | ⟨g, cap', cur, hv, hb, hg, r⟩
  · exact .inl h1
  · cases hv
    exact .inr ⟨g, _, cur, rfl, hb, (k.block g (Array.getElem?_eq_some_iff.1 hg).1 (hx _ rfl)).trans hg, r⟩
/-- The first k changes, done. -/
def didTo (l : List (Value × Chg)) (D : DM) (k : Nat) : DM := (l.take k).foldl (fun D x => x.2.did D) D
theorem didTo_succ {l : List (Value × Chg)} {D : DM} {k : Nat} (h : k < l.length) : didTo l D (k + 1) = l[k].2.did (didTo l D k) := by
  unfold didTo
  rw [List.take_succ_eq_append_getElem h, List.foldl_append]; rfl
end Go.Proofs.Ytoiggdcgfbjhpaa
