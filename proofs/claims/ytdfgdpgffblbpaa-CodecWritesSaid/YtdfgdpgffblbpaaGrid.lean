/-
  A slice of slices of bytes that a call makes by make, and stores into.
-/
import Derived.Test.YtdfgdpgffblbpaaPush
namespace Go.Proofs.Ytdfgdpgffblbpaa
open Go.ChangeShapes Go.WideShapes Go.ChangeAt Go.RowKit Go.Joins
set_option linter.unusedVariables false

def nilV (_ : Nat) : Value := .slice none 0 0
theorem infoG : (Try.prog.info? 28).map (fun i => (i.zero, i.size, i.bytes)) = some (some (.slice none 0 0), 1, 24) := by kernel_rfl
set_option maxRecDepth 100000 in
theorem make_grid (n : Nat) (hn : n ≤ 1000000) (w : World) : (Instr.makeSlice 52 (.int .i64 (n : Int)) (.int .i64 (n : Int))).run Try.prog w = .ok (.slice (some ⟨w.heap.size, 0, none⟩) n n) (w.alloc (.cells (rowArr n nilV) 28)) := by
  have h := run_make_row' (P := Try.prog) 52 28 (.slice none 0 0) 24 Try.underlying52 infoG rfl .i64 .i64 n (by omega) (by omega) w
  rw [h]
  congr 3
  apply Array.ext
  · simp [madeCells, rowArr]
  · intro i h1 h2
    simp [madeCells, rowArr, nilV, Nat.mod_one]

/-- Block g holds slices that read as these; the bytes stay. -/
structure Grid (B : Nat) (w : World) (g : Nat) (ls : Rws) : Prop where
  low : B ≤ g
  row : ∃ vs : Nat → Value, Row w g 28 ls.length ls.length vs ∧ ∀ i (h : i < ls.length), ∃ a c, vs i = .slice a ls[i].length c ∧ Rw B w a c ls[i]

theorem nil_rw (B : Nat) (w : World) : Rw B w none 0 [] := ⟨nil_sl w, fun h => absurd rfl h⟩
theorem Grid.new (B n : Nat) (w : World) (hB : B ≤ w.heap.size) : Grid B (w.alloc (.cells (rowArr n nilV) 28)) w.heap.size (List.replicate n []) := by
  refine ⟨hB, nilV, ?_, fun i hi => ⟨none, 0, ?_, ?_⟩⟩
  · rw [List.length_replicate]; exact Row.new_whole w _ _ nilV _ _ rfl rfl
  · simp [nilV]
  · simpa using nil_rw B _
theorem Grid.cell {B : Nat} {w : World} {g : Nat} {ls : Rws} (h : Grid B w g ls) {i : Nat} (hi : i < ls.length) : ∃ a c, w.cell? ⟨g, i, none⟩ = some (.slice a ls[i].length c) ∧ Rw B w a c ls[i] := by
  obtain ⟨vs, hr, hv⟩ := h.row
  obtain ⟨a, c, e, hw⟩ := hv i hi
  exact ⟨a, c, by rw [hr.cell i hi, e], hw⟩
theorem Grid.loose {B : Nat} {w : World} {g : Nat} {ls : Rws} (h : Grid B w g ls) (i : Nat) : w.frozen? ⟨g, i, none⟩ = false := by
  obtain ⟨vs, hr, _⟩ := h.row
  exact hr.loose i
theorem Grid.other {B : Nat} {w : World} {g : Nat} {ls : Rws} (h : Grid B w g ls) : Other B w g := by
  obtain ⟨vs, ⟨cs, e, _⟩, _⟩ := h.row
  exact ⟨h.low, cs, _, _, e, by decide⟩
theorem Grid.lt {B : Nat} {w : World} {g : Nat} {ls : Rws} (h : Grid B w g ls) : g < w.heap.size := by
  obtain ⟨vs, hr, _⟩ := h.row
  exact hr.lt
theorem Grid.set {B : Nat} {w : World} {g : Nat} {ls : Rws} (h : Grid B w g ls) {i : Nat} (hi : i < ls.length) {a : Option Addr} {c : Nat} {x : List Nat} (hx : Rw B w a c x) : Grid B (w.setCell ⟨g, i, none⟩ (.slice a x.length c)) g (ls.set i x) := by
  have hk : Keep B w (w.setCell ⟨g, i, none⟩ (.slice a x.length c)) := (Keep.refl B w).set (p := ⟨g, i, none⟩) h.other _
  obtain ⟨vs, hr, hv⟩ := h.row
  refine ⟨h.low, fun j => if j = i then .slice a x.length c else vs j, ?_, fun j hj => ?_⟩
  · rw [List.length_set]; exact hr.upd i hi _
  · rw [List.length_set] at hj
    by_cases e : j = i
    · subst e
      exact ⟨a, c, by simp, by simpa using hx.keep hk⟩
    · obtain ⟨a', c', e1, e2⟩ := hv j hj
      refine ⟨a', c', ?_, ?_⟩
      · simp only [e, if_false, e1]
        rw [List.getElem_set_ne (Ne.symm e)]
      · rw [List.getElem_set_ne (Ne.symm e)]; exact e2.keep hk
theorem Grid.keep_set {B : Nat} {w : World} {g : Nat} {ls : Rws} (h : Grid B w g ls) (i : Nat) (u : Value) {a : World} (k : Keep B a w) : Keep B a (w.setCell ⟨g, i, none⟩ u) := k.set (p := ⟨g, i, none⟩) h.other u
theorem Grid.below {B : Nat} {w w' : World} {g : Nat} {ls : Rws} (h : Grid B w g ls) (k : Below w.heap.size w w') : Grid B w' g ls := by
  have hlt := h.lt
  obtain ⟨vs, hr, hv⟩ := h.row
  refine ⟨h.low, vs, hr.below k hlt, fun i hi => ?_⟩
  obtain ⟨a, c, e1, e2⟩ := hv i hi
  exact ⟨a, c, e1, e2.below k⟩
/-- As seen by a call behind. -/
theorem Grid.rs {B : Nat} {w : World} {g : Nat} {ls : Rws} (h : Grid B w g ls) (hm : ls.length ≤ 1000000) : Rs w.heap.size w (some ⟨g, 0, none⟩) ls.length ls := by
  refine ⟨Nat.le_refl _, by unfold maxLen; omega, fun e => (by cases e), .inr ⟨g, 0, rfl, h.lt, fun i hi => ?_⟩⟩
  obtain ⟨a, c, e1, e2⟩ := h.cell hi
  exact ⟨a, c, by rw [Nat.zero_add]; exact e1, Rw.of_sl e2.sl⟩
end Go.Proofs.Ytdfgdpgffblbpaa
