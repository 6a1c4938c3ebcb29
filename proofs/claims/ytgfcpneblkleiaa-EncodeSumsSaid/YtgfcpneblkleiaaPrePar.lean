/-
  Package precode's Parities.
-/
import Derived.Test.YtgfcpneblkleiaaPreC
import Derived.Test.YtgfcpneblkleiaaPreSum
namespace Go.Proofs.Ytgfcpneblkleiaa
open Go.ChangeShapes Go.WideShapes Go.ChangeAt Go.RowKit Go.Joins
set_option linter.unusedVariables false

theorem Keep.over {B : Nat} {a w w' : World} (h : Keep B a w) (k : Below a.heap.size w w') : Keep B a w' :=
  ⟨k.os.trans h.os, k.tape.trans h.tape, k.output.trans h.output, Nat.le_trans h.size k.size, fun i hi hb => by rw [k.block i hi]; exact h.block i hi hb⟩

/-- A cell of a grid is written, and then the bytes that it leads to. -/
theorem Grid.put {B : Nat} {a a1 w : World} {g : Nat} {ls : Rws} (h : Grid B a g ls) (k1 : Below a.heap.size a a1) {i : Nat} (hi : i < ls.length) {p : Option Addr} {c : Nat} {x : List Nat}
    (e : w.heap[g]? = (a1.setCell ⟨g, i, none⟩ (.slice p x.length c)).heap[g]?) (hk : Keep B a w) (hx : Rw B w p c x) : Grid B w g (ls.set i x) := by
  have hlt := h.lt
  obtain ⟨vs, hr, hv⟩ := h.row
  refine ⟨h.low, fun j => if j = i then .slice p x.length c else vs j, ?_, fun j hj => ?_⟩
  · rw [List.length_set]
    obtain ⟨cs, h1, h2, h3⟩ := (hr.below k1 hlt).upd i hi (.slice p x.length c)
    exact ⟨cs, by rw [e]; exact h1, h2, h3⟩
  · rw [List.length_set] at hj
    by_cases ej : j = i
    · subst ej
      exact ⟨p, c, by simp, by simpa using hx⟩
    · obtain ⟨a', c', e1, e2⟩ := hv j hj
      refine ⟨a', c', ?_, ?_⟩
      · simp only [ej, if_false, e1]
        rw [List.getElem_set_ne (Ne.symm ej)]
      · rw [List.getElem_set_ne (Ne.symm ej)]; exact e2.keep hk

def goodB (ls : Rws) (m : Nat) : Bool := ls.all fun x => decide (x.length ≤ m)
theorem goodB_iff {ls : Rws} {m : Nat} : goodB ls m = true ↔ ∀ x ∈ ls, x.length ≤ m := by simp [goodB]
/-- The parities' bytes. -/
def parSyms (ls : Rws) (m : Nat) : Rws := (parRows ls.length).map fun r => symTo ls m r ls.length
def ParPost (ls : Rws) (m : Nat) (w : World) (e : Ending) (w' : World) : Prop :=
  Below w.heap.size w w' ∧ ((goodB ls m = true ∧ ∃ g, e = .returned (.tuple #[.slice (some ⟨g, 0, none⟩) (spN ls.length + 2) (spN ls.length + 2), .int .i64 0]) ∧ Rs w'.heap.size w' (some ⟨g, 0, none⟩) (spN ls.length + 2) (parSyms ls m)) ∨ (goodB ls m = false ∧ e = .returned (.tuple #[.slice none 0 0, .int .i64 3])))

theorem symTo_pads (v : Rws) (m : Nat) (row : List Nat) : ∀ i, i ≤ v.length → symTo (pads v m) m row i = symTo v m row i
  | 0, _ => rfl
  | i + 1, hi => by
    have h1 : (pads v m).getD i [] = fillN v[i] m := by rw [getR (by rw [pads, List.length_map]; omega)]; simp [pads]
    have h2 : v.getD i [] = v[i] := getR (by omega)
    show plusN (symTo (pads v m) m row i) (fillN ((pads v m).getD i []) m) _ = plusN (symTo v m row i) (fillN (v.getD i []) m) _
    rw [symTo_pads v m row i (by omega), h1, h2]
    congr 1
    have := fillN_self (fillN v[i] m)
    rw [fillN_len] at this
    exact this

/-- What lies behind so many sources that were copied. -/
structure FullAt (w : World) (src : Rws) (m n j : Nat) (ls : Rws) (wr : World) : Prop where
  grid : Grid w.heap.size wr w.heap.size ls
  len : ls.length = n
  eq : ∀ i (h : i < ls.length) (h2 : i < src.length), i < j → ls[i] = fillN src[i] m
  short : ∀ i (h2 : i < src.length), i < j → src[i].length ≤ m
  below : Below w.heap.size w wr
theorem FullAt.start (w : World) (src : Rws) (m n : Nat) : FullAt w src m n 0 (List.replicate n []) (w.alloc (.cells (rowArr n nilV) 30)) :=
  ⟨Grid.new _ n w (Nat.le_refl _), by simp, fun i _ _ h => by omega, fun i _ h => by omega, (Below.refl _ _).alloc (Nat.le_refl _) _⟩
theorem FullAt.all {w : World} {src : Rws} {m n : Nat} {ls : Rws} {wr : World} (h : FullAt w src m n n ls wr) (hn : src.length = n) : ls = pads src m := by
  apply List.ext_getElem
  · rw [h.len, pads, List.length_map, hn]
  · intro i h1 h2
    rw [h.eq i h1 (by rw [hn, ← h.len]; exact h1) (by rw [← h.len]; exact h1)]; simp [pads]
theorem FullAt.next {w : World} {src : Rws} {m n j : Nat} {ls : Rws} {wr a1 w' : World} (h : FullAt w src m n j ls wr) (hj : j < src.length) (hn : src.length = n) (hs : src[j].length ≤ m) (hb : IsByte src[j]) (hm : m ≤ 1000000)
    (k1 : Below wr.heap.size wr a1) (e : w'.heap[w.heap.size]? = (a1.setCell ⟨w.heap.size, j, none⟩ (.slice (some ⟨wr.heap.size, 0, none⟩) m m)).heap[w.heap.size]?) (hk : Keep w.heap.size wr w')
    (hg : w'.heap[wr.heap.size]? = some (.cells (rowArr m (vOf (fillN src[j] m))) 5 (0, 0))) : FullAt w src m n (j + 1) (ls.set j (fillN src[j] m)) w' := by
  have hjl : j < ls.length := by rw [h.len, ← hn]; exact hj
  have hrw : Rw w.heap.size w' (some ⟨wr.heap.size, 0, none⟩) m (fillN src[j] m) := by
    refine ⟨(Row.of_whole hg).sl (fillN_len _ _) (fillN_byte hb m) (by unfold maxLen; omega), fun _ p hp => ?_⟩
    cases hp
    exact .inr ⟨_, _, hg⟩
  refine ⟨?_, by rw [List.length_set]; exact h.len, fun i h1 h2 hi => ?_, fun i h2 hi => ?_, h.below.trans (hk.below h.below.size)⟩
  · refine h.grid.put k1 hjl ?_ hk hrw
    rw [fillN_len]; exact e
  · by_cases ei : i = j
    · subst ei; simp
    · rw [List.getElem_set_ne (Ne.symm ei)]; exact h.eq i (by simpa using h1) h2 (by omega)
  · by_cases ei : i = j
    · subst ei; exact hs
    · exact h.short i h2 (by omega)

theorem grid_new_heap (w : World) (o : Obj) (p : Addr) (v : Value) (h : p.block ≠ w.heap.size) : ((w.alloc o).setCell p v).heap[w.heap.size]? = (w.alloc o).heap[w.heap.size]? :=
  Below.heap_setCell _ _ _ _ (Ne.symm h)

end Go.Proofs.Ytgfcpneblkleiaa
