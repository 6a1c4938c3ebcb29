/-
  Package dense's lines in memory; cancel and scale.
-/
import Derived.Test.YtiglmoggpjgmbaaRefRank
namespace Go.Proofs.Ytiglmoggpjgmbaa
open Go.ChangeShapes Go.WideShapes Go.ChangeAt Go.RowKit Go.Joins
set_option linter.unusedVariables false

/-- Blocks that X does not name stay. -/
structure Fr (X : Nat → Prop) (w w' : World) : Prop where
  os : w'.os = w.os
  tape : w'.tape = w.tape
  output : w'.output = w.output
  size : w.heap.size ≤ w'.heap.size
  block : ∀ k, k < w.heap.size → ¬ X k → w'.heap[k]? = w.heap[k]?
theorem Fr.refl (X : Nat → Prop) (w : World) : Fr X w w := ⟨rfl, rfl, rfl, Nat.le_refl _, fun _ _ _ => rfl⟩
theorem Fr.trans {X : Nat → Prop} {a b c : World} (h : Fr X a b) (k : Fr X b c) : Fr X a c :=
  ⟨k.os.trans h.os, k.tape.trans h.tape, k.output.trans h.output, Nat.le_trans h.size k.size, fun i hi hx => (k.block i (Nat.lt_of_lt_of_le hi h.size) hx).trans (h.block i hi hx)⟩
theorem Fr.mono {X Y : Nat → Prop} {w w' : World} (h : Fr X w w') (hs : ∀ k, k < w.heap.size → X k → Y k) : Fr Y w w' := ⟨h.os, h.tape, h.output, h.size, fun k hk hy => h.block k hk fun hx => hy (hs k hk hx)⟩
theorem Fr.of_below {X : Nat → Prop} {w w' : World} (h : Below w.heap.size w w') : Fr X w w' := ⟨h.os, h.tape, h.output, h.size, fun k hk _ => h.block k hk⟩
theorem Fr.below {X : Nat → Prop} {B : Nat} {w w' : World} (h : Fr X w w') (hB : B ≤ w.heap.size) (hx : ∀ k, k < B → ¬ X k) : Below B w w' := ⟨h.os, h.tape, h.output, h.size, fun k hk => h.block k (by omega) (hx k hk)⟩
theorem Fr.set {X : Nat → Prop} {a w : World} (h : Fr X a w) {p : Addr} (hp : p.block < a.heap.size → X p.block) (u : Value) : Fr X a (w.setCell p u) :=
  ⟨h.os, h.tape, h.output, by simpa using h.size, fun k hk hx => by
    rw [Below.heap_setCell _ _ _ _ fun e => hx (by subst e; exact hp hk)]
    exact h.block k hk hx⟩
theorem Fr.setRow {X : Nat → Prop} {a w : World} (h : Fr X a w) {g : Nat} (hp : g < a.heap.size → X g) (cs : Array Value) : Fr X a (w.setRow g cs) :=
  ⟨h.os, h.tape, h.output, by simpa [World.setRow] using h.size, fun k hk hx => by
    rw [Go.setRow_other _ _ _ _ fun e => hx (by subst e; exact hp hk)]
    exact h.block k hk hx⟩
theorem Fr.later {X : Nat → Prop} {a w w' : World} (h : Fr X a w) (k : Below w.heap.size w w') : Fr X a w' := h.trans (Fr.of_below k)

/-- Block b is just these bytes. -/
def BlkB (w : World) (b : Nat) (l : List Nat) : Prop := w.heap[b]? = some (.cells (rowArr l.length (vOf l)) 5 (0, 0))
theorem BlkB.lt {w : World} {b : Nat} {l : List Nat} (h : BlkB w b l) : b < w.heap.size := (Array.getElem?_eq_some_iff.1 h).1
theorem BlkB.row {w : World} {b : Nat} {l : List Nat} (h : BlkB w b l) : Row w b 5 l.length l.length (vOf l) := Row.of_whole h
theorem BlkB.of_new {W w : World} {m : List Nat} {n : Nat} (h : NewTo W w m n) (hn : m.length = n) : BlkB w W.heap.size m := by
  subst hn; exact h.row.whole
theorem BlkB.fr {X : Nat → Prop} {w w' : World} {b : Nat} {l : List Nat} (h : BlkB w b l) (k : Fr X w w') (hx : ¬ X b) : BlkB w' b l := (k.block b h.lt hx).trans h
theorem BlkB.below {w w' : World} {b : Nat} {l : List Nat} (h : BlkB w b l) (k : Below w.heap.size w w') : BlkB w' b l := (k.block b h.lt).trans h
theorem BlkB.byt {w : World} {b : Nat} {l : List Nat} (h : BlkB w b l) : Byt w b := ⟨_, _, h⟩
theorem BlkB.sl {w : World} {b : Nat} {l : List Nat} (h : BlkB w b l) (hb : IsByte l) (hm : l.length ≤ 1000000) : Sl w (some ⟨b, 0, none⟩) l.length l := h.row.sl rfl hb (by unfold maxLen; omega)
theorem BlkB.cell {w : World} {b : Nat} {l : List Nat} (h : BlkB w b l) {j : Nat} (hj : j < l.length) : w.cell? ⟨b, j, none⟩ = some (.int .u8 ((l[j] : Nat) : Int)) := by rw [h.row.cell j hj, vOf_eq l j hj]

/-- A line's value: where its row and its right lie, and its lead. -/
structure LV where
  rb : Nat
  rl : Nat
  gb : Nat
  gl : Nat
  ld : Int
def LV.enc (x : LV) : List Value := [.slice (some ⟨x.rb, 0, none⟩) x.rl x.rl, .slice (some ⟨x.gb, 0, none⟩) x.gl x.gl, .int .i64 x.ld]
instance : Inhabited LV := ⟨⟨0, 0, 0, 0, 0⟩⟩
/-- It is that line. -/
structure LineAt (w : World) (x : LV) (l : Ln) : Prop where
  row : BlkB w x.rb l.row
  rl : x.rl = l.row.length
  right : BlkB w x.gb l.right
  gl : x.gl = l.right.length
theorem LineAt.below {w w' : World} {x : LV} {l : Ln} (h : LineAt w x l) (k : Below w.heap.size w w') : LineAt w' x l := ⟨h.row.below k, h.rl, h.right.below k, h.gl⟩
theorem LineAt.fr {X : Nat → Prop} {w w' : World} {x : LV} {l : Ln} (h : LineAt w x l) (k : Fr X w w') (h1 : ¬ X x.rb) (h2 : ¬ X x.gb) : LineAt w' x l := ⟨h.row.fr k h1, h.rl, h.right.fr k h2, h.gl⟩

/-- Cells o, o + 1, o + 2 of block B are the line's. -/
structure Cells3 (w : World) (B o : Nat) (T : TypeId) (cs : Array Value) (x : LV) : Prop where
  blk : w.heap[B]? = some (.cells cs T (0, 0))
  c0 : cs[o]? = some (.slice (some ⟨x.rb, 0, none⟩) x.rl x.rl)
  c1 : cs[o + 1]? = some (.slice (some ⟨x.gb, 0, none⟩) x.gl x.gl)
  c2 : cs[o + 2]? = some (.int .i64 x.ld)
theorem Cells3.cell {w : World} {B o : Nat} {T : TypeId} {cs : Array Value} {x : LV} (h : Cells3 w B o T cs x) : w.cell? ⟨B, o, none⟩ = some (.slice (some ⟨x.rb, 0, none⟩) x.rl x.rl) ∧ w.cell? ⟨B, o + 1, none⟩ = some (.slice (some ⟨x.gb, 0, none⟩) x.gl x.gl) ∧ w.cell? ⟨B, o + 2, none⟩ = some (.int .i64 x.ld) :=
  ⟨by rw [cell_of_block h.blk]; exact h.c0, by rw [cell_of_block h.blk]; exact h.c1, by rw [cell_of_block h.blk]; exact h.c2⟩
theorem Cells3.lt {w : World} {B o : Nat} {T : TypeId} {cs : Array Value} {x : LV} (h : Cells3 w B o T cs x) : B < w.heap.size := (Array.getElem?_eq_some_iff.1 h.blk).1
theorem Cells3.loose {w : World} {B o : Nat} {T : TypeId} {cs : Array Value} {x : LV} (h : Cells3 w B o T cs x) (i : Nat) : w.frozen? ⟨B, i, none⟩ = false := unfrozen_of_block h.blk i
theorem Cells3.ne {w : World} {B o : Nat} {T : TypeId} {cs : Array Value} {x : LV} (h : Cells3 w B o T cs x) {b : Nat} {l : List Nat} (hb : BlkB w b l) : B ≠ b := fun e => by
  subst e
  have h1 := h.blk
  rw [show w.heap[B]? = _ from hb] at h1
  injection h1 with h1
  injection h1 with h1 _ _
  have h2 := h.c0
  rw [← h1] at h2
  have ho : o < l.length := by
    rcases Nat.lt_or_ge o l.length with h | h
    · exact h
    · rw [Array.getElem?_eq_none (by rw [rowArr_size]; exact h)] at h2; cases h2
  simp [rowArr, ho, vOf, byteV] at h2
theorem Cells3.below {w w' : World} {B o : Nat} {T : TypeId} {cs : Array Value} {x : LV} (h : Cells3 w B o T cs x) (k : Below w.heap.size w w') : Cells3 w' B o T cs x := ⟨(k.block B h.lt).trans h.blk, h.c0, h.c1, h.c2⟩
theorem Cells3.fr {X : Nat → Prop} {w w' : World} {B o : Nat} {T : TypeId} {cs : Array Value} {x : LV} (h : Cells3 w B o T cs x) (k : Fr X w w') (hx : ¬ X B) : Cells3 w' B o T cs x := ⟨(k.block B h.lt hx).trans h.blk, h.c0, h.c1, h.c2⟩

/-! Cuts of a row. -/
theorem cut_sl {w : World} {b : Nat} {l : List Nat} (h : BlkB w b l) (hb : IsByte l) (hm : l.length ≤ 1000000) {p q : Nat} (hpq : p ≤ q) (hq : q ≤ l.length) : Sl w (some ⟨b, p, none⟩) (l.length - p) ((l.drop p).take (q - p)) := by
  have hlen : ((l.drop p).take (q - p)).length = q - p := by simp; omega
  refine ⟨fun n hn => hb n (List.mem_of_mem_drop (List.mem_of_mem_take hn)), by rw [hlen]; omega, by unfold maxLen; omega, fun e => (by cases e), .inr ⟨b, p, rfl, fun i hi => ?_⟩⟩
  rw [hlen] at hi
  rw [h.cell (show p + i < l.length by omega)]
  simp
theorem cut_len {l : List Nat} {p q : Nat} (hpq : p ≤ q) (hq : q ≤ l.length) : ((l.drop p).take (q - p)).length = q - p := by simp; omega

/-- The row behind a copy of the sum over its middle. -/
theorem row_after {l m : List Nat} {c p : Nat} (hml : m.length ≤ l.length) (hp : p ≤ m.length) (hz : ∀ j, j < p → m.getD j 0 = 0) :
    (splice (rowArr l.length (vOf l)).toList p ((plusN ((l.drop p).take (m.length - p)) (m.drop p) c).map byteV)).toArray = rowArr (addW l m c).length (vOf (addW l m c)) := by
  have h1 : ((l.drop p).take (m.length - p)).length = m.length - p := cut_len hp hml
  have h2 : (m.drop p).length = m.length - p := by simp
  have h3 : (plusN ((l.drop p).take (m.length - p)) (m.drop p) c).length = m.length - p := by rw [plusN_len _ _ _ (by rw [h1, h2]; exact Nat.le_refl _), h1]
  have hlen : (splice (rowArr l.length (vOf l)).toList p ((plusN ((l.drop p).take (m.length - p)) (m.drop p) c).map byteV)).length = l.length := by
    rw [length_splice _ _ _ (by simp only [List.length_map, h3]; simp [rowArr]; omega)]; simp [rowArr]
  apply Array.ext
  · rw [List.size_toArray, hlen, rowArr_size, addW_len]
  · intro i hi1 hi2
    rw [rowArr_size, addW_len] at hi2
    have e1 : (rowArr (addW l m c).length (vOf (addW l m c)))[i]'(by rw [rowArr_size, addW_len]; exact hi2) = byteV (l.getD i 0 ^^^ mulN (m.getD i 0) c) := by
      simp only [rowArr, List.getElem_toArray, List.getElem_map, List.getElem_range, vOf]
      rw [addW_get l m c i hi2]
    rw [e1]
    have eL : ∀ j (hj : j < (rowArr l.length (vOf l)).toList.length), (rowArr l.length (vOf l)).toList[j] = byteV (l.getD j 0) := fun j hj => by
      simp [rowArr, vOf]
    simp only [List.getElem_toArray, splice]
    have hRl : (rowArr l.length (vOf l)).toList.length = l.length := by simp [rowArr]
    have hT : (List.take p (rowArr l.length (vOf l)).toList).length = p := by rw [List.length_take, hRl]; omega
    by_cases hi : i < p
    · rw [List.getElem_append_left (by rw [hT]; exact hi), List.getElem_take, eL, hz i hi, zero_mul, Nat.xor_zero]
    · rw [List.getElem_append_right (by rw [hT]; omega)]
      by_cases hi3 : i < m.length
      · rw [List.getElem_append_left (by rw [List.length_map, h3, hT]; omega)]
        simp only [List.getElem_map, hT]
        rw [plusN_get _ _ _ _ (by rw [h3]; omega) (by rw [h1]; omega) (by rw [h2]; omega)]
        congr 1
        rw [getD_get hi2, getD_get hi3]
        simp only [List.getElem_take, List.getElem_drop, show p + (i - p) = i by omega]
      · rw [List.getElem_append_right (by rw [List.length_map, h3, hT]; omega)]
        simp only [List.getElem_drop, List.length_map, h3, hT]
        rw [eL, getD_high (l := m) (by omega), zero_mul, Nat.xor_zero]
        congr 2
        omega
end Go.Proofs.Ytiglmoggpjgmbaa
