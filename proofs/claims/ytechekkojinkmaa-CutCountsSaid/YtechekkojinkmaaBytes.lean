/-
  Lists of bytes in memory: one that came in, one that a call fills.
-/
import Derived.Test.YtechekkojinkmaaRows
import Derived.WalkKit
import Derived.ProofKit
import Derived.OpenShut
import Derived.Below
import Derived.WalkSpells
import Derived.WalkLawsBesides
import Derived.Outline
import Derived.Deep.QuietTactic
import Derived.BigQuiet
import Derived.Lib.Hide
import Derived.Laws.BitsAllLaws
import Derived.Lib.SmallJoins
import Derived.Deep.WholeRow
import Derived.Deep.OwnRows
import Derived.Laws.BytesArg
import Derived.LaidMore
import Derived.Stop.Joined
import Derived.SizedLaws
import Derived.ChangeOld
namespace Go.Proofs.Ytechekkojinkmaa
open Go.ChangeShapes Go.WideShapes Go.ChangeAt Go.RowKit Go.Joins
set_option linter.unusedVariables false

/-- What a law's call ends with. -/
def TrueAnd (w : World) (e : Ending) (w' : World) : Prop := e = .returned (.bool true) ∧ Below w.heap.size w w'
theorem ret_bool {a b : Bool} (h : a = b) : Ending.returned (.bool a) = .returned (.bool b) := by rw [h]

def IsByte (l : List Nat) : Prop := ∀ n ∈ l, n < 256
/-- Cells from a place on hold these bytes. -/
def BytesIn (w : World) (b off : Nat) (l : List Nat) : Prop := ∀ i (h : i < l.length), w.cell? ⟨b, off + i, none⟩ = some (.int .u8 ((l[i] : Nat) : Int))
/-- A slice of bytes: nothing to read, or cells from a place on. -/
def BytesAt (w : World) (a : Option Addr) (l : List Nat) : Prop := l = [] ∨ ∃ b off, a = some ⟨b, off, none⟩ ∧ BytesIn w b off l

theorem BytesIn.below {w w' : World} {B b off : Nat} {l : List Nat} (h : BytesIn w b off l) (hB : w.heap.size ≤ B) (hb : Below B w w') : BytesIn w' b off l := fun i hi => by
  rw [hb.cell (p := ⟨b, off + i, none⟩) (Nat.lt_of_lt_of_le (World.block_lt_of_cell? w _ (h i hi)) hB)]; exact h i hi

theorem BytesAt.below {w w' : World} {B : Nat} {a : Option Addr} {l : List Nat} (h : BytesAt w a l) (hB : w.heap.size ≤ B) (hb : Below B w w') : BytesAt w' a l := by
  rcases h with h | ⟨b, off, e, h⟩
  · exact .inl h
  · exact .inr ⟨b, off, e, h.below hB hb⟩

/-- The slice '.slice a l.length cap' reads as l. -/
structure Sl (w : World) (a : Option Addr) (cap : Nat) (l : List Nat) : Prop where
  byte : IsByte l
  len : l.length ≤ cap
  most : cap ≤ maxLen
  none : a = none → l = [] ∧ cap = 0
  here : BytesAt w a l

theorem Sl.below {w w' : World} {a : Option Addr} {cap : Nat} {l : List Nat} (h : Sl w a cap l) (hb : Below w.heap.size w w') : Sl w' a cap l :=
  ⟨h.byte, h.len, h.most, h.none, h.here.below (Nat.le_refl _) hb⟩
theorem Sl.drewN {w : World} {a : Option Addr} {cap : Nat} {l : List Nat} (h : Sl w a cap l) (n : Nat) : Sl (w.drewN n) a cap l := ⟨h.byte, h.len, h.most, h.none, h.here⟩
theorem Sl.drew {w : World} {a : Option Addr} {cap : Nat} {l : List Nat} (h : Sl w a cap l) : Sl w.drew a cap l := ⟨h.byte, h.len, h.most, h.none, h.here⟩
theorem Sl.lt {w : World} {a : Option Addr} {cap : Nat} {l : List Nat} (h : Sl w a cap l) : l.length ≤ 9223372036854775807 := by
  have h1 := h.len
  have h2 := h.most
  unfold maxLen at h2
  omega
theorem Sl.some {w : World} {a : Option Addr} {cap : Nat} {l : List Nat} (h : Sl w a cap l) {k : Nat} (hk : k < l.length) : ∃ b off, a = some ⟨b, off, Option.none⟩ ∧ BytesIn w b off l := by
  rcases h.here with rfl | h
  · simp at hk
  · exact h
theorem nil_sl (w : World) : Sl w Option.none 0 [] := ⟨by simp [IsByte], by simp, by simp, fun _ => ⟨rfl, rfl⟩, .inl rfl⟩

/-- Block B is a row of n cells; the first k are as g says. -/
def Row (w : World) (B : Nat) (ty : TypeId) (n k : Nat) (g : Nat → Value) : Prop :=
  ∃ cs, w.heap[B]? = some (.cells cs ty (0, 0)) ∧ cs.size = n ∧ ∀ j, j < k → cs[j]? = some (g j)

theorem Row.cell {w : World} {B : Nat} {ty : TypeId} {n k : Nat} {g : Nat → Value} (h : Row w B ty n k g) (j : Nat) (hj : j < k) : w.cell? ⟨B, j, none⟩ = some (g j) := by
  obtain ⟨cs, h1, _, h3⟩ := h
  rw [cell_of_block h1]; exact h3 j hj

theorem Row.has {w : World} {B : Nat} {ty : TypeId} {n k : Nat} {g : Nat → Value} (h : Row w B ty n k g) (j : Nat) (hj : j < n) : ∃ v, w.cell? ⟨B, j, none⟩ = some v := by
  obtain ⟨cs, h1, h2, _⟩ := h
  exact ⟨cs[j], by rw [cell_of_block h1]; simp [h2, hj]⟩

theorem Row.loose {w : World} {B : Nat} {ty : TypeId} {n k : Nat} {g : Nat → Value} (h : Row w B ty n k g) (j : Nat) : w.frozen? ⟨B, j, none⟩ = false := by
  obtain ⟨cs, h1, _, _⟩ := h
  exact unfrozen_of_block h1 j

theorem Row.lt {w : World} {B : Nat} {ty : TypeId} {n k : Nat} {g : Nat → Value} (h : Row w B ty n k g) : B < w.heap.size := by
  obtain ⟨cs, h1, _, _⟩ := h
  exact (Array.getElem?_eq_some_iff.1 h1).1

theorem Row.set {w : World} {B : Nat} {ty : TypeId} {n k : Nat} {g : Nat → Value} (h : Row w B ty n k g) (hk : k < n) {v : Value} (hv : v = g k) : Row (w.setCell ⟨B, k, none⟩ v) B ty n (k + 1) g := by
  obtain ⟨cs, h1, h2, h3⟩ := h
  refine ⟨cs.setIfInBounds k v, block_setCell h1 v, by simp [h2], fun j hj => ?_⟩
  by_cases e : j = k
  · subst e; simp [h2, hk, hv]
  · rw [Array.getElem?_setIfInBounds_ne (by omega)]; exact h3 j (by omega)

/-- A cell of a row is written. -/
theorem Row.upd {w : World} {B : Nat} {ty : TypeId} {n m : Nat} {g : Nat → Value} (h : Row w B ty n m g) (k : Nat) (hk : k < n) (v : Value) : Row (w.setCell ⟨B, k, none⟩ v) B ty n m (fun j => if j = k then v else g j) := by
  obtain ⟨cs, h1, h2, h3⟩ := h
  refine ⟨cs.setIfInBounds k v, Joins.block_setCell h1 v, by simp [h2], fun j hj => ?_⟩
  by_cases e : j = k
  · subst e; simp [h2, hk]
  · rw [Array.getElem?_setIfInBounds_ne (by omega)]; simp only [e, if_false]; exact h3 j hj

/-- Another block is written. -/
theorem Row.other {w : World} {B C : Nat} {ty : TypeId} {n k i : Nat} {g : Nat → Value} {v : Value} (h : Row w B ty n k g) (hne : B ≠ C) : Row (w.setCell ⟨C, i, none⟩ v) B ty n k g := by
  obtain ⟨cs, h1, h2, h3⟩ := h
  exact ⟨cs, by rw [Below.heap_setCell _ _ _ _ hne]; exact h1, h2, h3⟩

theorem Row.below {w w' : World} {B C : Nat} {ty : TypeId} {n k : Nat} {g : Nat → Value} (h : Row w B ty n k g) (hb : Below C w w') (hC : B < C) : Row w' B ty n k g := by
  obtain ⟨cs, h1, h2, h3⟩ := h
  exact ⟨cs, by rw [hb.block _ hC]; exact h1, h2, h3⟩

theorem Row.drew {w : World} {B : Nat} {ty : TypeId} {n k : Nat} {g : Nat → Value} (h : Row w B ty n k g) (q : Nat) : Row (w.drewN q) B ty n k g := h

theorem Row.mono {w : World} {B : Nat} {ty : TypeId} {n k m : Nat} {g f : Nat → Value} (h : Row w B ty n k g) (hm : m ≤ k) (hf : ∀ j, j < m → g j = f j) : Row w B ty n m f := by
  obtain ⟨cs, h1, h2, h3⟩ := h
  exact ⟨cs, h1, h2, fun j hj => by rw [h3 j (by omega), hf j hj]⟩

/-- What a whole row holds. -/
def rowArr (n : Nat) (g : Nat → Value) : Array Value := ((List.range n).map g).toArray

theorem rowArr_size (n : Nat) (g : Nat → Value) : (rowArr n g).size = n := by simp [rowArr]

theorem Row.whole {w : World} {B : Nat} {ty : TypeId} {n : Nat} {g : Nat → Value} (h : Row w B ty n n g) : w.heap[B]? = some (.cells (rowArr n g) ty (0, 0)) := by
  obtain ⟨cs, h1, h2, h3⟩ := h
  have : cs = rowArr n g := by
    apply Array.ext_getElem?
    intro i
    by_cases hi : i < n
    · rw [h3 i hi]; simp [rowArr, hi]
    · simp [rowArr, h2, hi]
  rw [← this]; exact h1

theorem Row.of_whole {w : World} {B : Nat} {ty : TypeId} {n : Nat} {g : Nat → Value} (h : w.heap[B]? = some (.cells (rowArr n g) ty (0, 0))) : Row w B ty n n g :=
  ⟨_, h, rowArr_size n g, fun j hj => by simp [rowArr, hj]⟩

/-- A new block, nothing known of it but its length. -/
theorem Row.new (w : World) (cs : Array Value) (ty : TypeId) (g : Nat → Value) : Row (w.alloc (.cells cs ty)) w.heap.size ty cs.size 0 g :=
  ⟨cs, heap_alloc_last w _, rfl, fun j hj => by omega⟩

theorem Row.new' (w : World) (cs : Array Value) (ty : TypeId) (g : Nat → Value) (B n : Nat) (hB : B = w.heap.size) (hn : cs.size = n) : Row (w.alloc (.cells cs ty)) B ty n 0 g := by
  subst hB hn; exact Row.new w cs ty g

theorem Row.new_whole (w : World) (cs : Array Value) (ty : TypeId) (g : Nat → Value) (B n : Nat) (hB : B = w.heap.size) (hn : cs = rowArr n g) : Row (w.alloc (.cells cs ty)) B ty n n g := by
  subst hB hn; exact Row.of_whole (heap_alloc_last w _)

theorem Row.alloc {w : World} {B : Nat} {ty : TypeId} {n k : Nat} {g : Nat → Value} (h : Row w B ty n k g) (o : Obj) : Row (w.alloc o) B ty n k g := by
  have hlt := h.lt
  obtain ⟨cs, h1, h2, h3⟩ := h
  exact ⟨cs, by rw [Below.heap_alloc _ _ _ hlt]; exact h1, h2, h3⟩

/-- A whole row is written, in a block of the call's own. -/
theorem below_setRow {B g : Nat} {a w : World} (h : Below B a w) (hg : B ≤ g) (cs : Array Value) : Below B a (w.setRow g cs) :=
  h.trans ⟨setRow_os _ _ _, setRow_tape _ _ _, setRow_output _ _ _, by simp [World.setRow], fun k hk => setRow_other _ _ _ _ (by omega)⟩

theorem Row.whole_set {w : World} {B : Nat} {ty : TypeId} {n k : Nat} {g f : Nat → Value} (h : Row w B ty n k g) : Row (w.setRow B (rowArr n f)) B ty n n f := by
  obtain ⟨cs, h1, _, _⟩ := h
  exact Row.of_whole (setRow_heap _ _ _ _ _ _ h1)

theorem Row.setRow_other {w : World} {B C : Nat} {ty : TypeId} {n k : Nat} {g : Nat → Value} (h : Row w B ty n k g) (hne : B ≠ C) (cs : Array Value) : Row (w.setRow C cs) B ty n k g := by
  obtain ⟨cs', h1, h2, h3⟩ := h
  exact ⟨cs', by rw [Go.setRow_other _ _ _ _ hne]; exact h1, h2, h3⟩


/-! Rows of bytes. -/

def byteV (c : Nat) : Value := .int .u8 (c : Int)
def vOf (l : List Nat) (j : Nat) : Value := byteV (l.getD j 0)
def zV (_ : Nat) : Value := .int .u8 0

theorem vOf_eq (l : List Nat) (j : Nat) (h : j < l.length) : vOf l j = .int .u8 ((l[j] : Nat) : Int) := by
  simp [vOf, byteV, List.getD, h]

theorem Row.sl {w : World} {B n : Nat} {l : List Nat} (h : Row w B 5 n n (vOf l)) (hn : l.length = n) (hb : IsByte l) (hm : n ≤ maxLen) : Sl w (some ⟨B, 0, none⟩) n l :=
  ⟨hb, by omega, hm, fun e => (by cases e), .inr ⟨B, 0, rfl, fun i hi => by rw [Nat.zero_add, h.cell i (by omega), vOf_eq l i hi]⟩⟩

theorem info8 : (Try.prog.info? 5).map (fun i => (i.zero, i.size, i.bytes)) = some (some (.int .u8 0), 1, 1) := by kernel_rfl

/-- Behind W a row of its own, the first k bytes of m in it. -/
structure NewTo (W w : World) (m : List Nat) (k : Nat) : Prop where
  below : Below W.heap.size W w
  row : Row w W.heap.size 5 m.length k (vOf m)

theorem new_start (w : World) (m : List Nat) (n : Nat) (hn : m.length = n) : NewTo w (w.alloc (.cells (rowArr n zV) 5)) m 0 := by
  subst hn
  exact ⟨(Below.refl _ _).alloc (Nat.le_refl _) _, (Row.new_whole w _ _ zV _ _ rfl rfl).mono (Nat.zero_le _) (fun j hj => by omega)⟩
theorem NewTo.drewN {W w : World} {m : List Nat} {k : Nat} (h : NewTo W w m k) (n : Nat) : NewTo W (w.drewN n) m k := ⟨⟨h.below.os, h.below.tape, h.below.output, h.below.size, h.below.block⟩, h.row⟩
theorem NewTo.drew {W w : World} {m : List Nat} {k : Nat} (h : NewTo W w m k) : NewTo W w.drew m k := ⟨h.below.drew, h.row⟩
theorem NewTo.set {W w : World} {m : List Nat} {k : Nat} (h : NewTo W w m k) (hk : k < m.length) {u : Value} (hu : u = .int .u8 ((m[k] : Nat) : Int)) : NewTo W (w.setCell ⟨W.heap.size, k, none⟩ u) m (k + 1) :=
  ⟨h.below.setCell (Nat.le_refl _) _, h.row.set hk (by rw [hu, vOf_eq m k hk])⟩
theorem NewTo.sl {W w : World} {m : List Nat} (h : NewTo W w m m.length) (hb : IsByte m) (hm : m.length ≤ 1000000) : Sl w (some ⟨W.heap.size, 0, none⟩) m.length m :=
  h.row.sl rfl hb (by unfold maxLen; omega)

/-! Strings of bytes. -/

def strOf (l : List Nat) : ByteArray := strOfNums (l.map fun n : Nat => (n : Int))

/-! A parameter. -/

theorem cells8 : Try.prog.cellsOf 5 = 1 := by kernel_rfl

end Go.Proofs.Ytechekkojinkmaa
