/-
  A row of cells that a call fills, one after the other: the block as a whole.
-/
import Derived.Test.YthnodhlgfokfjaaDoorCrcB
import Derived.Lib.SmallJoins
import Derived.Deep.WholeRow
namespace Go.Proofs.YthnodhlgfokfjaaDoor
open Go.RowKit Go.Joins
set_option linter.unusedVariables false

/-- Block B is a row of n cells; the first k are as g says. -/
def Row (w : World) (B : Nat) (ty : TypeId) (n k : Nat) (g : Nat → Value) : Prop :=
  ∃ cs, w.heap[B]? = some (.cells cs ty (0, 0)) ∧ cs.size = n ∧ ∀ j, j < k → cs[j]? = some (g j)

theorem Row.cell {w : World} {B : Nat} {ty : TypeId} {n k : Nat} {g : Nat → Value} (h : Row w B ty n k g) (j : Nat) (hj : j < k) : w.cell? ⟨B, j, none⟩ = some (g j) := by
  obtain ⟨cs, h1, _, h3⟩ := h
  rw [cell_of_block h1]; exact h3 j hj

theorem Row.has {w : World} {B : Nat} {ty : TypeId} {n k : Nat} {g : Nat → Value} (h : Row w B ty n k g) (j : Nat) (hj : j < n) : ∃ v, w.cell? ⟨B, j, none⟩ = some v := by
  obtain ⟨cs, h1, h2, _⟩ := h
  exact ⟨cs[j], by rw [cell_of_block h1]; simp [h2, hj]⟩

theorem Row.loose {w : World} {B : Nat} {ty : TypeId} {n k : Nat} {g : Nat → Value} (h : Row w B ty n k g) (j : Nat) : w.frozen? ⟨B, j, none⟩ = false := by
  obtain ⟨cs, h1, _, _⟩ := h
  exact unfrozen_of_block h1 j

theorem Row.lt {w : World} {B : Nat} {ty : TypeId} {n k : Nat} {g : Nat → Value} (h : Row w B ty n k g) : B < w.heap.size := by
  obtain ⟨cs, h1, _, _⟩ := h
  exact (Array.getElem?_eq_some_iff.1 h1).1

theorem Row.set {w : World} {B : Nat} {ty : TypeId} {n k : Nat} {g : Nat → Value} (h : Row w B ty n k g) (hk : k < n) {v : Value} (hv : v = g k) : Row (w.setCell ⟨B, k, none⟩ v) B ty n (k + 1) g := by
  obtain ⟨cs, h1, h2, h3⟩ := h
  refine ⟨cs.setIfInBounds k v, block_setCell h1 v, by simp [h2], fun j hj => ?_⟩
  by_cases e : j = k
  · subst e; simp [h2, hk, hv]
  · rw [Array.getElem?_setIfInBounds_ne (by omega)]; exact h3 j (by omega)

/-- A cell of a row is written. -/
theorem Row.upd {w : World} {B : Nat} {ty : TypeId} {n m : Nat} {g : Nat → Value} (h : Row w B ty n m g) (k : Nat) (hk : k < n) (v : Value) : Row (w.setCell ⟨B, k, none⟩ v) B ty n m (fun j => if j = k then v else g j) := by
  obtain ⟨cs, h1, h2, h3⟩ := h
  refine ⟨cs.setIfInBounds k v, Joins.block_setCell h1 v, by simp [h2], fun j hj => ?_⟩
  by_cases e : j = k
  · subst e; simp [h2, hk]
  · rw [Array.getElem?_setIfInBounds_ne (by omega)]; simp only [e, if_false]; exact h3 j hj

/-- Another block is written. -/
theorem Row.other {w : World} {B C : Nat} {ty : TypeId} {n k i : Nat} {g : Nat → Value} {v : Value} (h : Row w B ty n k g) (hne : B ≠ C) : Row (w.setCell ⟨C, i, none⟩ v) B ty n k g := by
  obtain ⟨cs, h1, h2, h3⟩ := h
  exact ⟨cs, by rw [Below.heap_setCell _ _ _ _ hne]; exact h1, h2, h3⟩

theorem Row.below {w w' : World} {B C : Nat} {ty : TypeId} {n k : Nat} {g : Nat → Value} (h : Row w B ty n k g) (hb : Below C w w') (hC : B < C) : Row w' B ty n k g := by
  obtain ⟨cs, h1, h2, h3⟩ := h
  exact ⟨cs, by rw [hb.block _ hC]; exact h1, h2, h3⟩

theorem Row.drew {w : World} {B : Nat} {ty : TypeId} {n k : Nat} {g : Nat → Value} (h : Row w B ty n k g) (q : Nat) : Row (w.drewN q) B ty n k g := h

theorem Row.mono {w : World} {B : Nat} {ty : TypeId} {n k m : Nat} {g f : Nat → Value} (h : Row w B ty n k g) (hm : m ≤ k) (hf : ∀ j, j < m → g j = f j) : Row w B ty n m f := by
  obtain ⟨cs, h1, h2, h3⟩ := h
  exact ⟨cs, h1, h2, fun j hj => by rw [h3 j (by omega), hf j hj]⟩

/-- What a whole row holds. -/
def rowArr (n : Nat) (g : Nat → Value) : Array Value := ((List.range n).map g).toArray

theorem rowArr_size (n : Nat) (g : Nat → Value) : (rowArr n g).size = n := by simp [rowArr]

theorem Row.whole {w : World} {B : Nat} {ty : TypeId} {n : Nat} {g : Nat → Value} (h : Row w B ty n n g) : w.heap[B]? = some (.cells (rowArr n g) ty (0, 0)) := by
  obtain ⟨cs, h1, h2, h3⟩ := h
  have : cs = rowArr n g := by
    apply Array.ext_getElem?
    intro i
    by_cases hi : i < n
    · rw [h3 i hi]; simp [rowArr, hi]
    · simp [rowArr, h2, hi]
  rw [← this]; exact h1

theorem Row.of_whole {w : World} {B : Nat} {ty : TypeId} {n : Nat} {g : Nat → Value} (h : w.heap[B]? = some (.cells (rowArr n g) ty (0, 0))) : Row w B ty n n g :=
  ⟨_, h, rowArr_size n g, fun j hj => by simp [rowArr, hj]⟩

/-- A new block, nothing known of it but its length. -/
theorem Row.new (w : World) (cs : Array Value) (ty : TypeId) (g : Nat → Value) : Row (w.alloc (.cells cs ty)) w.heap.size ty cs.size 0 g :=
  ⟨cs, heap_alloc_last w _, rfl, fun j hj => by omega⟩

theorem Row.new' (w : World) (cs : Array Value) (ty : TypeId) (g : Nat → Value) (B n : Nat) (hB : B = w.heap.size) (hn : cs.size = n) : Row (w.alloc (.cells cs ty)) B ty n 0 g := by
  subst hB hn; exact Row.new w cs ty g

theorem Row.new_whole (w : World) (cs : Array Value) (ty : TypeId) (g : Nat → Value) (B n : Nat) (hB : B = w.heap.size) (hn : cs = rowArr n g) : Row (w.alloc (.cells cs ty)) B ty n n g := by
  subst hB hn; exact Row.of_whole (heap_alloc_last w _)

theorem Row.alloc {w : World} {B : Nat} {ty : TypeId} {n k : Nat} {g : Nat → Value} (h : Row w B ty n k g) (o : Obj) : Row (w.alloc o) B ty n k g := by
  have hlt := h.lt
  obtain ⟨cs, h1, h2, h3⟩ := h
  exact ⟨cs, by rw [Below.heap_alloc _ _ _ hlt]; exact h1, h2, h3⟩

/-- A whole row is written, in a block of the call's own. -/
theorem below_setRow {B g : Nat} {a w : World} (h : Below B a w) (hg : B ≤ g) (cs : Array Value) : Below B a (w.setRow g cs) :=
  h.trans ⟨setRow_os _ _ _, setRow_tape _ _ _, setRow_output _ _ _, by simp [World.setRow], fun k hk => setRow_other _ _ _ _ (by omega)⟩

theorem Row.whole_set {w : World} {B : Nat} {ty : TypeId} {n k : Nat} {g f : Nat → Value} (h : Row w B ty n k g) : Row (w.setRow B (rowArr n f)) B ty n n f := by
  obtain ⟨cs, h1, _, _⟩ := h
  exact Row.of_whole (setRow_heap _ _ _ _ _ _ h1)

theorem Row.setRow_other {w : World} {B C : Nat} {ty : TypeId} {n k : Nat} {g : Nat → Value} (h : Row w B ty n k g) (hne : B ≠ C) (cs : Array Value) : Row (w.setRow C cs) B ty n k g := by
  obtain ⟨cs', h1, h2, h3⟩ := h
  exact ⟨cs', by rw [Go.setRow_other _ _ _ _ hne]; exact h1, h2, h3⟩

end Go.Proofs.YthnodhlgfokfjaaDoor
