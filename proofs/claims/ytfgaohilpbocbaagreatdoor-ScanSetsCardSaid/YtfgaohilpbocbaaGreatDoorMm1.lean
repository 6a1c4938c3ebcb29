/-
  Lists of bytes in memory: one that came in, one that a call fills.
  Bytes that came in, and how many there can be.
  A frame: blocks that X doesn't name stay.
  Items (law 13) that came in.
  Numbers as bytes (layer 13): what the document says, told.
  What package codec answers, told.
  Plain mathematics of the field of 256 numbers: products by doubling, by long division, sums, powers. Nothing of the program's dump is named here.
  What package field's Add and Mul, and the document's Mul, answer of any numbers.
-/
import Derived.Test.YtfgaohilpbocbaaGreatDoorRows
import Derived.WalkKit
import Derived.ProofKit
import Derived.OpenShut
import Derived.Below
import Derived.WalkSpells
import Derived.WalkLawsBesides
import Derived.Outline
import Derived.Deep.QuietTactic
import Derived.BigQuiet
import Derived.Lib.Hide
import Derived.Laws.BitsAllLaws
import Derived.Lib.SmallJoins
import Derived.Deep.WholeRow
import Derived.Deep.OwnRows
import Derived.Laws.BytesArg
import Derived.LaidMore
import Derived.Stop.Joined
import Derived.SizedLaws
import Derived.ChangeOld
import Derived.Laws.AppendOwn
import Derived.Deep.Slices
import Derived.KernelRfl
section
namespace Go.Proofs.YtfgaohilpbocbaaGreatDoor
open Go.ChangeShapes Go.WideShapes Go.ChangeAt Go.RowKit Go.Joins
set_option linter.unusedVariables false

/-- What a law's call ends with. -/
def TrueAnd (w : World) (e : Ending) (w' : World) : Prop := e = .returned (.bool true) ∧ Below w.heap.size w w'
theorem ret_bool {a b : Bool} (h : a = b) : Ending.returned (.bool a) = .returned (.bool b) := by rw [h]

def IsByte (l : List Nat) : Prop := ∀ n ∈ l, n < 256
/-- Cells from a place on hold these bytes. -/
def BytesIn (w : World) (b off : Nat) (l : List Nat) : Prop := ∀ i (h : i < l.length), w.cell? ⟨b, off + i, none⟩ = some (.int .u8 ((l[i] : Nat) : Int))
/-- A slice of bytes: nothing to read, or cells from a place on. -/
def BytesAt (w : World) (a : Option Addr) (l : List Nat) : Prop := l = [] ∨ ∃ b off, a = some ⟨b, off, none⟩ ∧ BytesIn w b off l

theorem BytesIn.below {w w' : World} {B b off : Nat} {l : List Nat} (h : BytesIn w b off l) (hB : w.heap.size ≤ B) (hb : Below B w w') : BytesIn w' b off l := fun i hi => by
  rw [hb.cell (p := ⟨b, off + i, none⟩) (Nat.lt_of_lt_of_le (World.block_lt_of_cell? w _ (h i hi)) hB)]; exact h i hi

theorem BytesAt.below {w w' : World} {B : Nat} {a : Option Addr} {l : List Nat} (h : BytesAt w a l) (hB : w.heap.size ≤ B) (hb : Below B w w') : BytesAt w' a l := by
  rcases h with h | ⟨b, off, e, h⟩
  · exact .inl h
  · exact .inr ⟨b, off, e, h.below hB hb⟩

/-- The slice '.slice a l.length cap' reads as l. -/
structure Sl (w : World) (a : Option Addr) (cap : Nat) (l : List Nat) : Prop where
  byte : IsByte l
  len : l.length ≤ cap
  most : cap ≤ maxLen
  none : a = none → l = [] ∧ cap = 0
  here : BytesAt w a l

theorem Sl.below {w w' : World} {a : Option Addr} {cap : Nat} {l : List Nat} (h : Sl w a cap l) (hb : Below w.heap.size w w') : Sl w' a cap l :=
  ⟨h.byte, h.len, h.most, h.none, h.here.below (Nat.le_refl _) hb⟩
theorem Sl.drewN {w : World} {a : Option Addr} {cap : Nat} {l : List Nat} (h : Sl w a cap l) (n : Nat) : Sl (w.drewN n) a cap l := ⟨h.byte, h.len, h.most, h.none, h.here⟩
theorem Sl.drew {w : World} {a : Option Addr} {cap : Nat} {l : List Nat} (h : Sl w a cap l) : Sl w.drew a cap l := ⟨h.byte, h.len, h.most, h.none, h.here⟩
theorem Sl.lt {w : World} {a : Option Addr} {cap : Nat} {l : List Nat} (h : Sl w a cap l) : l.length ≤ 9223372036854775807 := by
  have h1 := h.len
  have h2 := h.most
  unfold maxLen at h2
  omega
theorem Sl.some {w : World} {a : Option Addr} {cap : Nat} {l : List Nat} (h : Sl w a cap l) {k : Nat} (hk : k < l.length) : ∃ b off, a = some ⟨b, off, Option.none⟩ ∧ BytesIn w b off l := by
  rcases h.here with rfl | h
  · simp at hk
  · exact h
theorem nil_sl (w : World) : Sl w Option.none 0 [] := ⟨by simp [IsByte], by simp, by simp, fun _ => ⟨rfl, rfl⟩, .inl rfl⟩

/-- Block B is a row of n cells; the first k are as g says. -/
def Row (w : World) (B : Nat) (ty : TypeId) (n k : Nat) (g : Nat → Value) : Prop :=
  ∃ cs, w.heap[B]? = some (.cells cs ty (0, 0)) ∧ cs.size = n ∧ ∀ j, j < k → cs[j]? = some (g j)

theorem Row.cell {w : World} {B : Nat} {ty : TypeId} {n k : Nat} {g : Nat → Value} (h : Row w B ty n k g) (j : Nat) (hj : j < k) : w.cell? ⟨B, j, none⟩ = some (g j) := by
  obtain ⟨cs, h1, _, h3⟩ := h
  rw [cell_of_block h1]; exact h3 j hj

theorem Row.has {w : World} {B : Nat} {ty : TypeId} {n k : Nat} {g : Nat → Value} (h : Row w B ty n k g) (j : Nat) (hj : j < n) : ∃ v, w.cell? ⟨B, j, none⟩ = some v := by
  obtain ⟨cs, h1, h2, _⟩ := h
  exact ⟨cs[j], by rw [cell_of_block h1]; simp [h2, hj]⟩

theorem Row.loose {w : World} {B : Nat} {ty : TypeId} {n k : Nat} {g : Nat → Value} (h : Row w B ty n k g) (j : Nat) : w.frozen? ⟨B, j, none⟩ = false := by
  obtain ⟨cs, h1, _, _⟩ := h
  exact unfrozen_of_block h1 j

theorem Row.lt {w : World} {B : Nat} {ty : TypeId} {n k : Nat} {g : Nat → Value} (h : Row w B ty n k g) : B < w.heap.size := by
  obtain ⟨cs, h1, _, _⟩ := h
  exact (Array.getElem?_eq_some_iff.1 h1).1

theorem Row.set {w : World} {B : Nat} {ty : TypeId} {n k : Nat} {g : Nat → Value} (h : Row w B ty n k g) (hk : k < n) {v : Value} (hv : v = g k) : Row (w.setCell ⟨B, k, none⟩ v) B ty n (k + 1) g := by
  obtain ⟨cs, h1, h2, h3⟩ := h
  refine ⟨cs.setIfInBounds k v, block_setCell h1 v, by simp [h2], fun j hj => ?_⟩
  by_cases e : j = k
  · subst e; simp [h2, hk, hv]
  · rw [Array.getElem?_setIfInBounds_ne (by omega)]; exact h3 j (by omega)

/-- A cell of a row is written. -/
theorem Row.upd {w : World} {B : Nat} {ty : TypeId} {n m : Nat} {g : Nat → Value} (h : Row w B ty n m g) (k : Nat) (hk : k < n) (v : Value) : Row (w.setCell ⟨B, k, none⟩ v) B ty n m (fun j => if j = k then v else g j) := by
  obtain ⟨cs, h1, h2, h3⟩ := h
  refine ⟨cs.setIfInBounds k v, Joins.block_setCell h1 v, by simp [h2], fun j hj => ?_⟩
  by_cases e : j = k
  · subst e; simp [h2, hk]
  · rw [Array.getElem?_setIfInBounds_ne (by omega)]; simp only [e, if_false]; exact h3 j hj

/-- Another block is written. -/
theorem Row.other {w : World} {B C : Nat} {ty : TypeId} {n k i : Nat} {g : Nat → Value} {v : Value} (h : Row w B ty n k g) (hne : B ≠ C) : Row (w.setCell ⟨C, i, none⟩ v) B ty n k g := by
  obtain ⟨cs, h1, h2, h3⟩ := h
  exact ⟨cs, by rw [Below.heap_setCell _ _ _ _ hne]; exact h1, h2, h3⟩

theorem Row.below {w w' : World} {B C : Nat} {ty : TypeId} {n k : Nat} {g : Nat → Value} (h : Row w B ty n k g) (hb : Below C w w') (hC : B < C) : Row w' B ty n k g := by
  obtain ⟨cs, h1, h2, h3⟩ := h
  exact ⟨cs, by rw [hb.block _ hC]; exact h1, h2, h3⟩

theorem Row.drew {w : World} {B : Nat} {ty : TypeId} {n k : Nat} {g : Nat → Value} (h : Row w B ty n k g) (q : Nat) : Row (w.drewN q) B ty n k g := h

theorem Row.mono {w : World} {B : Nat} {ty : TypeId} {n k m : Nat} {g f : Nat → Value} (h : Row w B ty n k g) (hm : m ≤ k) (hf : ∀ j, j < m → g j = f j) : Row w B ty n m f := by
  obtain ⟨cs, h1, h2, h3⟩ := h
  exact ⟨cs, h1, h2, fun j hj => by rw [h3 j (by omega), hf j hj]⟩

/-- What a whole row holds. -/
def rowArr (n : Nat) (g : Nat → Value) : Array Value := ((List.range n).map g).toArray

theorem rowArr_size (n : Nat) (g : Nat → Value) : (rowArr n g).size = n := by simp [rowArr]

theorem Row.whole {w : World} {B : Nat} {ty : TypeId} {n : Nat} {g : Nat → Value} (h : Row w B ty n n g) : w.heap[B]? = some (.cells (rowArr n g) ty (0, 0)) := by
  obtain ⟨cs, h1, h2, h3⟩ := h
  have : cs = rowArr n g := by
    apply Array.ext_getElem?
    intro i
    by_cases hi : i < n
    · rw [h3 i hi]; simp [rowArr, hi]
    · simp [rowArr, h2, hi]
  rw [← this]; exact h1

theorem Row.of_whole {w : World} {B : Nat} {ty : TypeId} {n : Nat} {g : Nat → Value} (h : w.heap[B]? = some (.cells (rowArr n g) ty (0, 0))) : Row w B ty n n g :=
  ⟨_, h, rowArr_size n g, fun j hj => by simp [rowArr, hj]⟩

/-- A new block, nothing known of it but its length. -/
theorem Row.new (w : World) (cs : Array Value) (ty : TypeId) (g : Nat → Value) : Row (w.alloc (.cells cs ty)) w.heap.size ty cs.size 0 g :=
  ⟨cs, heap_alloc_last w _, rfl, fun j hj => by omega⟩

theorem Row.new' (w : World) (cs : Array Value) (ty : TypeId) (g : Nat → Value) (B n : Nat) (hB : B = w.heap.size) (hn : cs.size = n) : Row (w.alloc (.cells cs ty)) B ty n 0 g := by
  subst hB hn; exact Row.new w cs ty g

theorem Row.new_whole (w : World) (cs : Array Value) (ty : TypeId) (g : Nat → Value) (B n : Nat) (hB : B = w.heap.size) (hn : cs = rowArr n g) : Row (w.alloc (.cells cs ty)) B ty n n g := by
  subst hB hn; exact Row.of_whole (heap_alloc_last w _)

theorem Row.alloc {w : World} {B : Nat} {ty : TypeId} {n k : Nat} {g : Nat → Value} (h : Row w B ty n k g) (o : Obj) : Row (w.alloc o) B ty n k g := by
  have hlt := h.lt
  obtain ⟨cs, h1, h2, h3⟩ := h
  exact ⟨cs, by rw [Below.heap_alloc _ _ _ hlt]; exact h1, h2, h3⟩

/-- A whole row is written, in a block of the call's own. -/
theorem below_setRow {B g : Nat} {a w : World} (h : Below B a w) (hg : B ≤ g) (cs : Array Value) : Below B a (w.setRow g cs) :=
  h.trans ⟨setRow_os _ _ _, setRow_tape _ _ _, setRow_output _ _ _, by simp [World.setRow], fun k hk => setRow_other _ _ _ _ (by omega)⟩

theorem Row.whole_set {w : World} {B : Nat} {ty : TypeId} {n k : Nat} {g f : Nat → Value} (h : Row w B ty n k g) : Row (w.setRow B (rowArr n f)) B ty n n f := by
  obtain ⟨cs, h1, _, _⟩ := h
  exact Row.of_whole (setRow_heap _ _ _ _ _ _ h1)

theorem Row.setRow_other {w : World} {B C : Nat} {ty : TypeId} {n k : Nat} {g : Nat → Value} (h : Row w B ty n k g) (hne : B ≠ C) (cs : Array Value) : Row (w.setRow C cs) B ty n k g := by
  obtain ⟨cs', h1, h2, h3⟩ := h
  exact ⟨cs', by rw [Go.setRow_other _ _ _ _ hne]; exact h1, h2, h3⟩


/-! Rows of bytes. -/

def byteV (c : Nat) : Value := .int .u8 (c : Int)
def vOf (l : List Nat) (j : Nat) : Value := byteV (l.getD j 0)
def zV (_ : Nat) : Value := .int .u8 0

theorem vOf_eq (l : List Nat) (j : Nat) (h : j < l.length) : vOf l j = .int .u8 ((l[j] : Nat) : Int) := by
  simp [vOf, byteV, List.getD, h]

theorem Row.sl {w : World} {B n : Nat} {l : List Nat} (h : Row w B 5 n n (vOf l)) (hn : l.length = n) (hb : IsByte l) (hm : n ≤ maxLen) : Sl w (some ⟨B, 0, none⟩) n l :=
  ⟨hb, by omega, hm, fun e => (by cases e), .inr ⟨B, 0, rfl, fun i hi => by rw [Nat.zero_add, h.cell i (by omega), vOf_eq l i hi]⟩⟩

theorem info8 : (Tryz.prog.info? 5).map (fun i => (i.zero, i.size, i.bytes)) = some (some (.int .u8 0), 1, 1) := by kernel_rfl

set_option maxRecDepth 100000 in
theorem make_row (n : Nat) (hn : n ≤ 1000000) (w : World) : (Instr.makeSlice 53 (.int .i64 (n : Int)) (.int .i64 (n : Int))).run Tryz.prog w = .ok (.slice (some ⟨w.heap.size, 0, none⟩) n n) (w.alloc (.cells (rowArr n zV) 5)) := by
  have h := run_make_row' (P := Tryz.prog) 53 5 (.int .u8 0) 1 Tryz.underlying53 info8 rfl .i64 .i64 n (by omega) (by omega) w
  rw [h]
  congr 3
  apply Array.ext
  · simp [madeCells, rowArr]
  · intro i h1 h2
    simp [madeCells, rowArr, zV, Nat.mod_one]

/-- Behind W a row of its own, the first k bytes of m in it. -/
structure NewTo (W w : World) (m : List Nat) (k : Nat) : Prop where
  below : Below W.heap.size W w
  row : Row w W.heap.size 5 m.length k (vOf m)

theorem new_start (w : World) (m : List Nat) (n : Nat) (hn : m.length = n) : NewTo w (w.alloc (.cells (rowArr n zV) 5)) m 0 := by
  subst hn
  exact ⟨(Below.refl _ _).alloc (Nat.le_refl _) _, (Row.new_whole w _ _ zV _ _ rfl rfl).mono (Nat.zero_le _) (fun j hj => by omega)⟩
theorem NewTo.drewN {W w : World} {m : List Nat} {k : Nat} (h : NewTo W w m k) (n : Nat) : NewTo W (w.drewN n) m k := ⟨⟨h.below.os, h.below.tape, h.below.output, h.below.size, h.below.block⟩, h.row⟩
theorem NewTo.drew {W w : World} {m : List Nat} {k : Nat} (h : NewTo W w m k) : NewTo W w.drew m k := ⟨h.below.drew, h.row⟩
theorem NewTo.set {W w : World} {m : List Nat} {k : Nat} (h : NewTo W w m k) (hk : k < m.length) {u : Value} (hu : u = .int .u8 ((m[k] : Nat) : Int)) : NewTo W (w.setCell ⟨W.heap.size, k, none⟩ u) m (k + 1) :=
  ⟨h.below.setCell (Nat.le_refl _) _, h.row.set hk (by rw [hu, vOf_eq m k hk])⟩
theorem NewTo.sl {W w : World} {m : List Nat} (h : NewTo W w m m.length) (hb : IsByte m) (hm : m.length ≤ 1000000) : Sl w (some ⟨W.heap.size, 0, none⟩) m.length m :=
  h.row.sl rfl hb (by unfold maxLen; omega)

/-! Strings of bytes. -/

def strOf (l : List Nat) : ByteArray := strOfNums (l.map fun n : Nat => (n : Int))

theorem conv_sl (w : World) (a : Option Addr) (cap : Nat) (l : List Nat) (h : Sl w a cap l) : (convert 53 9 (.slice a l.length cap)).run Tryz.prog w = .ok (.string (strOf l)) w := by
  rcases a with _ | a
  · obtain ⟨rfl, rfl⟩ := h.none rfl
    exact run_convert_bytes_nil w 53 5 Tryz.underlying53 Tryz.underlying5 _ _ 9 Tryz.underlying9
  · rcases h.here with rfl | ⟨b, off, e, hb⟩
    · have := run_bytesToString (P := Tryz.prog) w a 0 cap [] rfl
      rw [run_convert_bytes_string w 53 9 5 _ _ _ Tryz.underlying53 Tryz.underlying5 Tryz.underlying9]
      exact this
    · cases e
      refine run_convert_bytes_arg w 53 5 Tryz.underlying53 Tryz.underlying5 b off l.length cap _ (by simp) (fun i hi => ?_) 9 Tryz.underlying9
      rw [hb i hi]
      simp [List.getD, hi]

/-! A parameter. -/

theorem cells8 : Tryz.prog.cellsOf 5 = 1 := by kernel_rfl

/-- A list of bytes that came in. -/
theorem bytes_in {H : Type} {enc : TypeId × Value → H} {w : World} {base fuel : Nat} {spare : Nat → Bool} {held : Bool} {c : Value} {x : DataW H × List MemPlace}
    (h : DataW.trod enc Tryz.prog w base spare held fuel 53 [c] = some x) :
    ∃ (a : Option Addr) (cap : Nat) (l : List Nat), c = .slice a l.length cap ∧ Sl w a cap l := by
  rcases open_ints Tryz.underlying53 Tryz.underlying5 cells8 h with ⟨hcs, hx⟩ | ⟨a, len, cap, zs, hcs, _, hl, hm, hz, hx, hcell, hwz⟩
  · simp only [List.cons.injEq, and_true] at hcs
    exact ⟨none, 0, [], hcs, nil_sl w⟩
  · simp only [List.cons.injEq, and_true] at hcs
    have hlz : len ≤ zs.length := by rw [hz]; split <;> omega
    have hll : ((zs.take len).map Int.toNat).length = len := by simp; omega
    refine ⟨some a, cap, (zs.take len).map Int.toNat, by rw [hll]; exact hcs, fun n hn => ?_, by omega, hm, fun e => (by cases e), ?_⟩
    · obtain ⟨z, hz1, rfl⟩ := List.mem_map.1 hn
      have := hwz z (List.mem_of_mem_take hz1)
      have hb : 0 ≤ z ∧ z ≤ 255 := by simpa [Lit.wf, IntKind.min, IntKind.max, IntKind.signed, IntKind.bits] using this
      omega
    · by_cases h0 : len = 0
      · exact .inl (List.length_eq_zero_iff.1 (by omega))
      · obtain ⟨b, off, spot⟩ := a
        have hc0 := hcell 0 (by omega)
        have hspot : spot = none := by simpa [Addr.add] using World.cell?_spot hc0
        subst hspot
        refine .inr ⟨b, off, rfl, fun i hi => ?_⟩
        have hi2 : i < len := by omega
        have hci := hcell i (by omega)
        have hwi := hwz zs[i] (List.getElem_mem (by omega))
        have hb : 0 ≤ zs[i] ∧ zs[i] ≤ 255 := by simpa [Lit.wf, IntKind.min, IntKind.max, IntKind.signed, IntKind.bits] using hwi
        have e : zs.getD i 0 = zs[i] := by simp [List.getD, show i < zs.length by omega]
        rw [e] at hci
        have e2 : ((((zs.take len).map Int.toNat)[i] : Nat) : Int) = zs[i] := by simp; omega
        rw [e2, ← hci]
        by_cases hi0 : i = 0
        · subst hi0; simp [Addr.add]
        · simp [Addr.add, hi0]
end Go.Proofs.YtfgaohilpbocbaaGreatDoor
end

section
namespace Go.Proofs.YtfgaohilpbocbaaGreatDoor
open Go.ChangeShapes Go.WideShapes Go.ChangeAt Go.RowKit Go.Joins
set_option linter.unusedVariables false

section
variable {H : Type} {enc : TypeId × Value → H} {w : World} {base : Nat} {spare : Nat → Bool} {held : Bool}

theorem bytes_in2 {fuel : Nat} {c : Value} {x : DataW H × List MemPlace} (h : DataW.trod enc Tryz.prog w base spare held fuel 53 [c] = some x) :
    ∃ a cap l, c = .slice a l.length cap ∧ Sl w a cap l ∧ ((∀ n ∈ DataW.weights Tryz.prog 53 x.1, n ≤ reachBytes) → l.length ≤ 140737488351232) := by
  obtain ⟨a, cap, l, e, hs⟩ := bytes_in h
  refine ⟨a, cap, l, e, hs, fun hw => ?_⟩
  rcases open_ints Tryz.underlying53 Tryz.underlying5 cells8 h with ⟨hcs, hx⟩ | ⟨a', len, cap', zs, hcs, _, hl, hm, hz, hx, hcell, hwz⟩
  · simp only [List.cons.injEq, and_true] at hcs
    rw [e] at hcs
    injection hcs with _ h2 _
    omega
  · simp only [List.cons.injEq, and_true] at hcs
    rw [e] at hcs
    injection hcs with _ h2 _
    subst hx
    have := hw (((lits (H := H) .u8 (zs.take len)).length + (lits (H := H) .u8 (zs.drop len)).length) * Tryz.prog.bytesOf 5) (by simp [DataW.weights, Tryz.underlying53])
    rw [show Tryz.prog.bytesOf 5 = 1 from by kernel_rfl] at this
    have hr : reachBytes = 140737488351232 := rfl
    have hlz : len ≤ zs.length := by rw [hz]; split <;> omega
    simp [lits] at this
    omega
theorem weights_mem {e : TypeId} : ∀ {l : List (DataW H)} {d : DataW H}, d ∈ l → ∀ n ∈ DataW.weights Tryz.prog e d, n ∈ DataW.weightsAll Tryz.prog e l
  | x :: l, d, hd, n, hn => by
    simp only [DataW.weightsAll, List.mem_append]
    rcases List.mem_cons.1 hd with rfl | hd
    · exact .inl hn
    · exact .inr (weights_mem hd n hn)
end
end Go.Proofs.YtfgaohilpbocbaaGreatDoor
end

section
namespace Go.Proofs.YtfgaohilpbocbaaGreatDoor
open Go.ChangeShapes Go.WideShapes Go.ChangeAt Go.RowKit Go.Joins
set_option linter.unusedVariables false

/-- Blocks that X does not name stay. -/
structure Fr (X : Nat → Prop) (w w' : World) : Prop where
  os : w'.os = w.os
  tape : w'.tape = w.tape
  output : w'.output = w.output
  size : w.heap.size ≤ w'.heap.size
  block : ∀ k, k < w.heap.size → ¬ X k → w'.heap[k]? = w.heap[k]?
theorem Fr.refl (X : Nat → Prop) (w : World) : Fr X w w := ⟨rfl, rfl, rfl, Nat.le_refl _, fun _ _ _ => rfl⟩
theorem Fr.trans {X : Nat → Prop} {a b c : World} (h : Fr X a b) (k : Fr X b c) : Fr X a c :=
  ⟨k.os.trans h.os, k.tape.trans h.tape, k.output.trans h.output, Nat.le_trans h.size k.size, fun i hi hx => (k.block i (Nat.lt_of_lt_of_le hi h.size) hx).trans (h.block i hi hx)⟩
theorem Fr.mono {X Y : Nat → Prop} {w w' : World} (h : Fr X w w') (hs : ∀ k, k < w.heap.size → X k → Y k) : Fr Y w w' := ⟨h.os, h.tape, h.output, h.size, fun k hk hy => h.block k hk fun hx => hy (hs k hk hx)⟩
theorem Fr.of_below {X : Nat → Prop} {w w' : World} (h : Below w.heap.size w w') : Fr X w w' := ⟨h.os, h.tape, h.output, h.size, fun k hk _ => h.block k hk⟩
theorem Fr.below {X : Nat → Prop} {B : Nat} {w w' : World} (h : Fr X w w') (hB : B ≤ w.heap.size) (hx : ∀ k, k < B → ¬ X k) : Below B w w' := ⟨h.os, h.tape, h.output, h.size, fun k hk => h.block k (by omega) (hx k hk)⟩
theorem Fr.set {X : Nat → Prop} {a w : World} (h : Fr X a w) {p : Addr} (hp : p.block < a.heap.size → X p.block) (u : Value) : Fr X a (w.setCell p u) :=
  ⟨h.os, h.tape, h.output, by simpa using h.size, fun k hk hx => by
    rw [Below.heap_setCell _ _ _ _ fun e => hx (by subst e; exact hp hk)]
    exact h.block k hk hx⟩
theorem Fr.setRow {X : Nat → Prop} {a w : World} (h : Fr X a w) {g : Nat} (hp : g < a.heap.size → X g) (cs : Array Value) : Fr X a (w.setRow g cs) :=
  ⟨h.os, h.tape, h.output, by simpa [World.setRow] using h.size, fun k hk hx => by
    rw [Go.setRow_other _ _ _ _ fun e => hx (by subst e; exact hp hk)]
    exact h.block k hk hx⟩
theorem Fr.later {X : Nat → Prop} {a w w' : World} (h : Fr X a w) (k : Below w.heap.size w w') : Fr X a w' := h.trans (Fr.of_below k)
theorem Fr.of_grown {X : Nat → Prop} {w w' : World} {row : Option Nat} (h : w.grownBy w' row) (hx : ∀ b, row = some b → X b) : Fr X w w' := ⟨h.os, h.tape, h.output, h.size, fun k hk hn => h.block k hk fun e => hn (hx k e.symm)⟩
end Go.Proofs.YtfgaohilpbocbaaGreatDoor
end

section
namespace Go.Proofs.YtfgaohilpbocbaaGreatDoor
open Go.ChangeShapes Go.WideShapes Go.ChangeAt Go.RowKit Go.Joins
set_option linter.unusedVariables false

/-- An item: its kind, number, size, bytes. -/
structure Itm where
  k : Nat
  v : Int
  n : Int
  b : List Nat
instance : Inhabited Itm := ⟨⟨0, 0, 0, []⟩⟩
/-- The four cells of an item. -/
def ItmAt (w : World) (p off : Nat) (x : Itm) : Prop := ∃ a c, w.cell? ⟨p, off, none⟩ = some (.int .u8 (x.k : Int)) ∧ w.cell? ⟨p, off + 1, none⟩ = some (.int .i64 x.v) ∧ w.cell? ⟨p, off + 2, none⟩ = some (.int .i64 x.n) ∧ w.cell? ⟨p, off + 3, none⟩ = some (.slice a x.b.length c) ∧ Sl w a c x.b
theorem ItmAt.below {w w' : World} {p off : Nat} {x : Itm} (h : ItmAt w p off x) (k : Below w.heap.size w w') : ItmAt w' p off x := by
  obtain ⟨a, c, h0, h1, h2, h3, h4⟩ := h
  have hp : p < w.heap.size := World.block_lt_of_cell? w _ h0
  exact ⟨a, c, (k.cell (p := ⟨p, off, none⟩) hp).trans h0, (k.cell (p := ⟨p, off + 1, none⟩) hp).trans h1, (k.cell (p := ⟨p, off + 2, none⟩) hp).trans h2, (k.cell (p := ⟨p, off + 3, none⟩) hp).trans h3, h4.below k⟩
def ItmOk (x : Itm) : Prop := x.k < 256 ∧ (-9223372036854775808 ≤ x.v ∧ x.v ≤ 9223372036854775807) ∧ (-9223372036854775808 ≤ x.n ∧ x.n ≤ 9223372036854775807) ∧ x.b.length ≤ 140737488351232
/-- The slice '.slice a l.length cap' reads as these items. -/
structure Its (w : World) (a : Option Addr) (cap : Nat) (l : List Itm) : Prop where
  rng : ∀ x ∈ l, ItmOk x
  len : l.length ≤ cap
  most : cap ≤ maxLen
  here : l = [] ∨ ∃ b off, a = some ⟨b, off, none⟩ ∧ b < w.heap.size ∧ ∀ i (h : i < l.length), ItmAt w b (off + i * 4) l[i]
theorem Its.below {w w' : World} {a : Option Addr} {cap : Nat} {l : List Itm} (h : Its w a cap l) (k : Below w.heap.size w w') : Its w' a cap l :=
  ⟨h.rng, h.len, h.most, by
    rcases h.here with e | ⟨b, off, e, hb, hc⟩
    · exact .inl e
    · exact .inr ⟨b, off, e, Nat.lt_of_lt_of_le hb k.size, fun i hi => (hc i hi).below k⟩⟩
theorem its_one {w : World} {a : Option Addr} {cap : Nat} {l : List Itm} (h : Its w a cap l) {i : Nat} (hi : i < l.length) : ∃ b off, a = some ⟨b, off, none⟩ ∧ b < w.heap.size ∧ ItmAt w b (off + i * 4) l[i] := by
  rcases h.here with rfl | ⟨b, off, e, hb, hc⟩
  · simp at hi
  · exact ⟨b, off, e, hb, hc i hi⟩
theorem Its.lt {w : World} {a : Option Addr} {cap : Nat} {l : List Itm} (h : Its w a cap l) : l.length ≤ 9223372036854775807 := by
  have h1 := h.len; have h2 := h.most; unfold maxLen at h2; omega

section
variable {H : Type} {enc : TypeId × Value → H} {w : World} {base : Nat}

end

/-- Not too many, of not too many bytes. -/
def bulkI (l : List Itm) : Nat := (l.map fun x => x.b.length).sum
def fewI (l : List Itm) : Bool := decide (l.length ≤ 100) && decide (bulkI l ≤ 20000)
theorem fewI_iff {l : List Itm} : fewI l = true ↔ l.length ≤ 100 ∧ bulkI l ≤ 20000 := by simp [fewI]
theorem bulk_take {l : List Itm} {k : Nat} (h : k < l.length) : bulkI (l.take (k + 1)) = bulkI (l.take k) + l[k].b.length := by
  unfold bulkI
  rw [List.take_succ_eq_append_getElem h, List.map_append, List.sum_append]
  simp
theorem bulk_le (l : List Itm) (k : Nat) : bulkI (l.take k) ≤ bulkI l := by
  unfold bulkI
  conv => rhs; rw [← List.take_append_drop k l, List.map_append, List.sum_append]
  omega

end Go.Proofs.YtfgaohilpbocbaaGreatDoor
end

section
namespace Go.Proofs.YtfgaohilpbocbaaGreatDoor
set_option linter.unusedVariables false

/-- A number in so many bytes, the greatest first. -/
def wideN : Nat → Nat → List Nat
  | _, 0 => []
  | v, n + 1 => wideN (v / 256) n ++ [v % 256]
/-- Bytes as a number. -/
def numN (l : List Nat) : Nat := l.foldl (fun a x => a * 256 + x) 0
theorem wideN_len : ∀ (n v : Nat), (wideN v n).length = n
  | 0, _ => rfl
  | n + 1, v => by simp [wideN, wideN_len n]
theorem wideN_byte : ∀ (n v : Nat), ∀ x ∈ wideN v n, x < 256
  | 0, _, x, hx => by simp [wideN] at hx
  | n + 1, v, x, hx => by
    rw [wideN] at hx
    rcases List.mem_append.1 hx with h | h
    · exact wideN_byte n _ x h
    · rw [List.mem_singleton.1 h]; omega
theorem numN_snoc (l : List Nat) (x : Nat) : numN (l ++ [x]) = numN l * 256 + x := by simp [numN]
theorem numN_wide : ∀ (n v : Nat), v < 256 ^ n → numN (wideN v n) = v
  | 0, v, h => by simp at h; subst h; rfl
  | n + 1, v, h => by
    rw [wideN, numN_snoc, numN_wide n (v / 256) (by rw [Nat.pow_succ] at h; omega)]
    omega
theorem numTo_lt : ∀ (l : List Nat) (a : Nat), (∀ x ∈ l, x < 256) → l.foldl (fun a x => a * 256 + x) a + 1 ≤ (a + 1) * 256 ^ l.length
  | [], a, _ => by simp
  | x :: l, a, h => by
    have h1 := numTo_lt l (a * 256 + x) fun y hy => h y (List.mem_cons_of_mem _ hy)
    have hx := h x (by simp)
    have h2 : (a * 256 + x + 1) * 256 ^ l.length ≤ ((a + 1) * 256) * 256 ^ l.length := Nat.mul_le_mul_right _ (by omega)
    rw [List.length_cons, Nat.pow_succ, List.foldl_cons]
    calc _ ≤ _ := h1
      _ ≤ _ := h2
      _ = _ := by rw [Nat.mul_assoc, Nat.mul_comm 256]
theorem numN_lt (l : List Nat) (h : ∀ x ∈ l, x < 256) : numN l < 256 ^ l.length := by
  have h1 := numTo_lt l 0 h
  simp only [Nat.zero_add, Nat.one_mul] at h1
  exact h1

/-- What an Out gets: a number, a text; none: it is spoilt. -/
def putN (v n : Int) : Option (List Nat) := if 1 ≤ n ∧ n ≤ 6 ∧ 0 ≤ v ∧ v < 256 ^ n.toNat then some (wideN v.toNat n.toNat) else none
def putT (b : List Nat) : Option (List Nat) := if b.length ≤ 255 then some (b.length :: b) else none
def addO (s p : Option (List Nat)) : Option (List Nat) := s.bind fun l => p.map fun m => l ++ m
/-- What an In gives: so many bytes, and the rest; none: it is bad. -/
def takeI (s : Option (List Nat)) (n : Int) : Option (List Nat × List Nat) := s.bind fun l => if 0 ≤ n ∧ n ≤ (l.length : Int) then some (l.take n.toNat, l.drop n.toNat) else none
def gN (s : Option (List Nat)) (n : Int) : Option (List Nat × List Nat) := if 1 ≤ n ∧ n ≤ 6 then takeI s n else none
def gT (s : Option (List Nat)) : Option (List Nat × List Nat) := (gN s 1).bind fun p => takeI (some p.2) (numN p.1 : Nat)
def ansN (s : Option (List Nat)) (n : Int) : Nat := ((gN s n).map fun p => numN p.1).getD 0
def restN (s : Option (List Nat)) (n : Int) : Option (List Nat) := (gN s n).map Prod.snd
def ansT (s : Option (List Nat)) : List Nat := ((gT s).map Prod.fst).getD []
def restT (s : Option (List Nat)) : Option (List Nat) := (gT s).map Prod.snd
def ansR (s : Option (List Nat)) (n : Int) : List Nat := ((takeI s n).map Prod.fst).getD []
def restR (s : Option (List Nat)) (n : Int) : Option (List Nat) := (takeI s n).map Prod.snd
def leftI (s : Option (List Nat)) : Nat := (s.getD []).length

theorem take_app (x r : List Nat) : takeI (some (x ++ r)) (x.length : Int) = some (x, r) := by
  simp [takeI]
theorem putN_some {v n : Int} {x : List Nat} (h : putN v n = some x) : 1 ≤ n ∧ n ≤ 6 ∧ (x.length : Int) = n ∧ (numN x : Int) = v ∧ ∀ y ∈ x, y < 256 := by
  unfold putN at h
  split at h
  · rename_i hc
    obtain ⟨h1, h2, h3, h4⟩ := hc
    cases h
    refine ⟨h1, h2, by rw [wideN_len]; omega, ?_, wideN_byte _ _⟩
    rw [numN_wide _ _ (by
      have : (v.toNat : Int) < ((256 ^ n.toNat : Nat) : Int) := by rw [Int.toNat_of_nonneg h3, Int.natCast_pow]; exact h4
      exact Int.ofNat_lt.1 this)]
    omega
  · cases h
theorem back_n {v n : Int} {x r : List Nat} (h : putN v n = some x) : (ansN (some (x ++ r)) n : Int) = v ∧ restN (some (x ++ r)) n = some r := by
  obtain ⟨h1, h2, h3, h4, _⟩ := putN_some h
  have e : gN (some (x ++ r)) n = some (x, r) := by
    unfold gN
    rw [if_pos ⟨h1, h2⟩, ← h3, take_app]
  exact ⟨by unfold ansN; rw [e]; exact h4, by unfold restN; rw [e]; rfl⟩
theorem back_t {b x r : List Nat} (h : putT b = some x) : ansT (some (x ++ r)) = b ∧ restT (some (x ++ r)) = some r := by
  unfold putT at h
  split at h
  · cases h
    have e : gT (some (b.length :: b ++ r)) = some (b, r) := by
      have e1 : gN (some (b.length :: b ++ r)) 1 = some ([b.length], b ++ r) := by
        have := take_app [b.length] (b ++ r)
        simpa [gN] using this
      unfold gT
      rw [e1]
      show takeI (some (b ++ r)) (numN [b.length] : Nat) = _
      rw [show numN [b.length] = b.length by simp [numN], take_app]
    exact ⟨by unfold ansT; rw [e]; rfl, by unfold restT; rw [e]; rfl⟩
  · cases h
theorem back_r {b r : List Nat} : ansR (some (b ++ r)) (b.length : Int) = b ∧ restR (some (b ++ r)) (b.length : Int) = some r := by
  simp [ansR, restR, take_app]
end Go.Proofs.YtfgaohilpbocbaaGreatDoor
end

section
namespace Go.Proofs.YtfgaohilpbocbaaGreatDoor
open Go.ChangeShapes Go.WideShapes Go.ChangeAt Go.RowKit Go.Joins
set_option linter.unusedVariables false

/-- The cells of a codec.Out's zero value. -/
def outZ : Array Value := #[.pointer none, .bool false]
def i64R (z : Int) : Prop := -9223372036854775808 ≤ z ∧ z ≤ 9223372036854775807
/-- Od X w b s q: block b is an Out that has got the bytes s (none: it is spoilt), at most q bytes were put, all of it lies in blocks that X names. -/
def OutPost (Od : (Nat → Prop) → World → Nat → Option (List Nat) → Nat → Prop) (X : Nat → Prop) (w : World) (b : Nat) (s : Option (List Nat)) (q : Nat) (e : Ending) (w' : World) : Prop :=
  e = .returned (.tuple #[]) ∧ ∃ X', Od X' w' b s q ∧ (∀ k, X' k → X k ∨ w.heap.size ≤ k) ∧ Fr X w w'
structure OutC (Od : (Nat → Prop) → World → Nat → Option (List Nat) → Nat → Prop) : Prop where
  zero : ∀ w : World, Od (fun k => k = w.heap.size) (w.alloc (.cells outZ 239)) w.heap.size (some []) 0
  keep : ∀ {X Y : Nat → Prop} {w w' : World} {b : Nat} {s : Option (List Nat)} {q : Nat}, Od X w b s q → Fr Y w w' → (∀ k, X k → ¬ Y k) → Od X w' b s q
  lt : ∀ {X : Nat → Prop} {w : World} {b : Nat} {s : Option (List Nat)} {q : Nat}, Od X w b s q → ∀ k, X k → k < w.heap.size
  mono : ∀ {X : Nat → Prop} {w : World} {b : Nat} {s : Option (List Nat)} {q q' : Nat}, Od X w b s q → q ≤ q' → Od X w b s q'
  n : ∀ (X : Nat → Prop) (w : World) (b : Nat) (s : Option (List Nat)) (q : Nat) (v n : Int), Od X w b s q → q ≤ 40000 → i64R v → i64R n →
    Calls Tryz.prog 142 #[.pointer (some ⟨b, 0, none⟩), .int .i64 v, .int .i64 n] w (OutPost Od X w b (addO s (putN v n)) (q + 6))
  text : ∀ (X : Nat → Prop) (w : World) (b : Nat) (s : Option (List Nat)) (q : Nat) (l : List Nat), Od X w b s q → q ≤ 40000 → IsByte l → l.length ≤ 20000 →
    Calls Tryz.prog 179 #[.pointer (some ⟨b, 0, none⟩), .string (strOf l)] w (OutPost Od X w b (addO s (putT l)) (q + l.length + 6))
  raw : ∀ (X : Nat → Prop) (w : World) (b : Nat) (s : Option (List Nat)) (q : Nat) (a : Option Addr) (c : Nat) (l : List Nat), Od X w b s q → q ≤ 40000 → Sl w a c l → l.length ≤ 20000 →
    Calls Tryz.prog 141 #[.pointer (some ⟨b, 0, none⟩), .slice a l.length c] w (OutPost Od X w b (addO s (some l)) (q + l.length))
  endOk : ∀ (X : Nat → Prop) (w : World) (b : Nat) (l : List Nat) (q : Nat), Od X w b (some l) q → q ≤ 40000 →
    Calls Tryz.prog 139 #[.pointer (some ⟨b, 0, none⟩)] w fun e w' => ∃ a c, e = .returned (.tuple #[.slice a l.length c, .int .i64 0]) ∧ Sl w' a c l ∧ Below w.heap.size w w'
  endBad : ∀ (X : Nat → Prop) (w : World) (b : Nat) (q : Nat), Od X w b none q → q ≤ 40000 →
    Calls Tryz.prog 139 #[.pointer (some ⟨b, 0, none⟩)] w fun e w' => ∃ a c, e = .returned (.tuple #[.slice a 0 c, .int .i64 1]) ∧ Below w.heap.size w w'
  nilN : ∀ (w : World) (v n : Int), i64R v → i64R n → Calls Tryz.prog 142 #[.pointer none, .int .i64 v, .int .i64 n] w fun e w' => e = .returned (.tuple #[]) ∧ Below w.heap.size w w'
  nilText : ∀ (w : World), Calls Tryz.prog 179 #[.pointer none, .string (strOf [97])] w fun e w' => e = .returned (.tuple #[]) ∧ Below w.heap.size w w'
  nilRaw : ∀ (w : World) (a : Option Addr) (c : Nat), Sl w a c [98] → Calls Tryz.prog 141 #[.pointer none, .slice a 1 c] w fun e w' => e = .returned (.tuple #[]) ∧ Below w.heap.size w w'
  nilEnd : ∀ (w : World), Calls Tryz.prog 139 #[.pointer none] w fun e w' => ∃ a c, e = .returned (.tuple #[.slice a 0 c, .int .i64 1]) ∧ Below w.heap.size w w'

/-- Id B X w b s: block b is an In that has these bytes left (none: it is bad), all of it that is written lies in blocks that X names, its bytes below B or in X's. -/
def InPost (Id : Nat → (Nat → Prop) → World → Nat → Option (List Nat) → Prop) (B : Nat) (X : Nat → Prop) (w : World) (b : Nat) (s : Option (List Nat)) (w' : World) : Prop :=
  ∃ X', Id B X' w' b s ∧ (∀ k, X' k → X k ∨ w.heap.size ≤ k) ∧ Fr X w w'
end Go.Proofs.YtfgaohilpbocbaaGreatDoor
end

section
namespace Go.Proofs.YtfgaohilpbocbaaGreatDoor
set_option linter.unusedVariables false

/-- A number times x. -/
def dbl (a : Nat) : Nat := if 128 ≤ a then (a * 2 % 256) ^^^ 29 else a * 2
/-- A number times x, so many times. -/
def dblN : Nat → Nat → Nat
  | 0, a => a
  | n + 1, a => dbl (dblN n a)
/-- v where the bit is 1. -/
def sel (b i v : Nat) : Nat := if b.testBit i then v else 0
def mulTo : Nat → Nat → Nat → Nat
  | 0, _, _ => 0
  | n + 1, a, b => mulTo n a b ^^^ sel b n (dblN n a)
/-- The product. -/
def mulN (a b : Nat) : Nat := mulTo 8 a b

theorem xor_lt {a b : Nat} (ha : a < 256) (hb : b < 256) : a ^^^ b < 256 := by
  have : a ^^^ b < 2 ^ 8 := Nat.xor_lt_two_pow (by omega) (by omega)
  simpa using this

theorem xor_swap (a b c d : Nat) : (a ^^^ b) ^^^ (c ^^^ d) = (a ^^^ c) ^^^ (b ^^^ d) := by
  rw [Nat.xor_assoc, Nat.xor_assoc, ← Nat.xor_assoc b c d, Nat.xor_comm b c, Nat.xor_assoc c b d]

theorem dbl_lt {a : Nat} (ha : a < 256) : dbl a < 256 := by
  unfold dbl
  split
  · exact xor_lt (by omega) (by omega)
  · omega
theorem dblN_lt (n : Nat) {a : Nat} (ha : a < 256) : dblN n a < 256 := by
  induction n with
  | zero => exact ha
  | succ n ih => exact dbl_lt ih
theorem sel_lt {b i v : Nat} (hv : v < 256) : sel b i v < 256 := by unfold sel; split <;> omega
theorem mulTo_lt (n : Nat) {a : Nat} (b : Nat) (ha : a < 256) : mulTo n a b < 256 := by
  induction n with
  | zero => exact Nat.zero_lt_succ _
  | succ n ih => exact xor_lt ih (sel_lt (dblN_lt n ha))
theorem mulN_lt {a : Nat} (b : Nat) (ha : a < 256) : mulN a b < 256 := mulTo_lt 8 b ha

/-- What holds of 0, of each bit and of sums holds of each number. -/
theorem bit_induct (P : Nat → Prop) (h0 : P 0) (hb : ∀ i, i < 8 → P (2 ^ i)) (hx : ∀ a b, a < 256 → b < 256 → P a → P b → P (a ^^^ b)) : ∀ a, a < 256 → P a := by
  have key : ∀ n, n ≤ 8 → ∀ a, a < 2 ^ n → P a := by
    intro n
    induction n with
    | zero => intro _ a ha; obtain rfl : a = 0 := by omega
              exact h0
    | succ n ih =>
      intro hn a ha
      have hp : 2 ^ (n + 1) = 2 ^ n + 2 ^ n := by rw [Nat.pow_succ]; omega
      have h256 : 2 ^ n + 2 ^ n ≤ 256 := by rw [← hp]; exact Nat.le_trans (Nat.pow_le_pow_right (by omega) hn) (by decide)
      by_cases hl : a < 2 ^ n
      · exact ih (by omega) a hl
      · have e : a = 2 ^ n ^^^ (a - 2 ^ n) := by
          have hs : a - 2 ^ n < 2 ^ n := by omega
          have h1 : 2 ^ n + (a - 2 ^ n) = 2 ^ n ||| (a - 2 ^ n) := by
            have := Nat.two_pow_add_eq_or_of_lt hs 1
            simpa using this
          have h2 : 2 ^ n ^^^ (a - 2 ^ n) = 2 ^ n ||| (a - 2 ^ n) := by
            apply Nat.eq_of_testBit_eq
            intro j
            rw [Nat.testBit_xor, Nat.testBit_or, Nat.testBit_two_pow]
            by_cases hj : n = j
            · subst hj
              rw [Nat.testBit_lt_two_pow hs]; simp
            · simp [hj]
          omega
        rw [e]
        exact hx _ _ (by omega) (by omega) (hb n (by omega)) (ih (by omega) _ (by omega))
  exact key 8 (Nat.le_refl _)

theorem mod_xor8 (a b : Nat) : (a ^^^ b) % 256 = a % 256 ^^^ b % 256 := by
  have := Nat.xor_mod_two_pow (a := a) (b := b) (n := 8)
  simpa using this
theorem mul_xor2 (a b : Nat) : (a ^^^ b) * 2 = a * 2 ^^^ b * 2 := by
  have := Nat.shiftLeft_xor_distrib (a := a) (b := b) (i := 1)
  simpa [Nat.shiftLeft_eq] using this
theorem top_bit {a : Nat} (ha : a < 256) : a.testBit 7 = decide (128 ≤ a) := by
  rw [Nat.testBit_eq_decide_div_mod_eq]
  by_cases h : 128 ≤ a
  · have : a / 2 ^ 7 = 1 := by omega
    simp [h, this]
  · have : a / 2 ^ 7 = 0 := by omega
    simp [h, this]
theorem dbl_eq {a : Nat} (ha : a < 256) : dbl a = a * 2 % 256 ^^^ sel a 7 29 := by
  unfold dbl sel
  rw [top_bit ha]
  by_cases h : 128 ≤ a
  · simp [h]
  · simp [h]; omega
theorem sel_xor (b c i v : Nat) : sel (b ^^^ c) i v = sel b i v ^^^ sel c i v := by
  unfold sel
  rw [Nat.testBit_xor]
  cases b.testBit i <;> cases c.testBit i <;> simp
theorem sel_sum (b i v u : Nat) : sel b i (v ^^^ u) = sel b i v ^^^ sel b i u := by
  unfold sel
  cases b.testBit i <;> simp
theorem dbl_xor {a b : Nat} (ha : a < 256) (hb : b < 256) : dbl (a ^^^ b) = dbl a ^^^ dbl b := by
  rw [dbl_eq ha, dbl_eq hb, dbl_eq (xor_lt ha hb), mul_xor2, mod_xor8, sel_xor, xor_swap]
theorem dblN_xor (n : Nat) {a b : Nat} (ha : a < 256) (hb : b < 256) : dblN n (a ^^^ b) = dblN n a ^^^ dblN n b := by
  induction n with
  | zero => rfl
  | succ n ih => show dbl _ = _; rw [ih, dbl_xor (dblN_lt n ha) (dblN_lt n hb)]; rfl
theorem mulTo_xor_left (n : Nat) {a c : Nat} (b : Nat) (ha : a < 256) (hc : c < 256) : mulTo n (a ^^^ c) b = mulTo n a b ^^^ mulTo n c b := by
  induction n with
  | zero => exact (Nat.xor_self 0).symm
  | succ n ih => show mulTo n _ b ^^^ _ = _; rw [ih, dblN_xor n ha hc, sel_sum, xor_swap]; rfl
theorem mulTo_xor_right (n a b c : Nat) : mulTo n a (b ^^^ c) = mulTo n a b ^^^ mulTo n a c := by
  induction n with
  | zero => exact (Nat.xor_self 0).symm
  | succ n ih => show mulTo n a _ ^^^ _ = _; rw [ih, sel_xor, xor_swap]; rfl
/-- Of sums the sums of products. -/
theorem mul_xor_left {a c : Nat} (b : Nat) (ha : a < 256) (hc : c < 256) : mulN (a ^^^ c) b = mulN a b ^^^ mulN c b := mulTo_xor_left 8 b ha hc
theorem mul_xor_right (a b c : Nat) : mulN a (b ^^^ c) = mulN a b ^^^ mulN a c := mulTo_xor_right 8 a b c
theorem dblN_zero (n : Nat) : dblN n 0 = 0 := by
  induction n with
  | zero => rfl
  | succ n ih => show dbl _ = _; rw [ih]; rfl
theorem mulTo_zero_left (n b : Nat) : mulTo n 0 b = 0 := by
  induction n with
  | zero => rfl
  | succ n ih => show mulTo n 0 b ^^^ _ = _; rw [ih, dblN_zero]; unfold sel; split <;> rfl
theorem mulTo_zero_right (n a : Nat) : mulTo n a 0 = 0 := by
  induction n with
  | zero => rfl
  | succ n ih => show mulTo n a 0 ^^^ _ = _; rw [ih]; unfold sel; simp
theorem zero_mul (b : Nat) : mulN 0 b = 0 := mulTo_zero_left 8 b
theorem mul_zero (a : Nat) : mulN a 0 = 0 := mulTo_zero_right 8 a

/-- Two products of two numbers that are sums of products at sums, and the same at bits, are the same. -/
theorem two_same (f g : Nat → Nat → Nat) (f0 : ∀ b, f 0 b = g 0 b) (f0' : ∀ a, f a 0 = g a 0)
    (fl : ∀ a c b, a < 256 → c < 256 → b < 256 → f (a ^^^ c) b = f a b ^^^ f c b) (gl : ∀ a c b, a < 256 → c < 256 → b < 256 → g (a ^^^ c) b = g a b ^^^ g c b)
    (fr : ∀ a b c, a < 256 → b < 256 → c < 256 → f a (b ^^^ c) = f a b ^^^ f a c) (gr : ∀ a b c, a < 256 → b < 256 → c < 256 → g a (b ^^^ c) = g a b ^^^ g a c)
    (hb : ∀ i, i < 8 → ∀ j, j < 8 → f (2 ^ i) (2 ^ j) = g (2 ^ i) (2 ^ j)) : ∀ a, a < 256 → ∀ b, b < 256 → f a b = g a b := by
  have p256 : ∀ i, i < 8 → 2 ^ i < 256 := fun i hi => by
    have : 2 ^ i < 2 ^ 8 := Nat.pow_lt_pow_right (by omega) hi
    simpa using this
  refine bit_induct _ (fun b _ => f0 b) (fun i hi => ?_) (fun a c ha hc h1 h2 b hb => ?_)
  · refine bit_induct _ (f0' _) (fun j hj => hb i hi j hj) (fun b c hb hc h1 h2 => ?_)
    rw [fr _ _ _ (p256 i hi) hb hc, gr _ _ _ (p256 i hi) hb hc, h1, h2]
  · rw [fl _ _ _ ha hc hb, gl _ _ _ ha hc hb, h1 b hb, h2 b hb]

theorem mul_comm {a b : Nat} (ha : a < 256) (hb : b < 256) : mulN a b = mulN b a :=
  two_same mulN (fun a b => mulN b a) (fun b => by rw [zero_mul, mul_zero]) (fun a => by rw [zero_mul, mul_zero])
    (fun a c b ha hc _ => mul_xor_left b ha hc) (fun a c b _ _ _ => mul_xor_right b a c) (fun a b c _ _ _ => mul_xor_right a b c) (fun a b c _ hb hc => mul_xor_left a hb hc)
    (by decide +kernel) a ha b hb

theorem mul_assoc {a b c : Nat} (ha : a < 256) (hb : b < 256) (hc : c < 256) : mulN a (mulN b c) = mulN (mulN a b) c := by
  refine bit_induct (fun a => mulN a (mulN b c) = mulN (mulN a b) c) (by simp only [zero_mul]) (fun i hi => ?_) (fun a d ha hd h1 h2 => ?_) a ha
  · have p256 : ∀ i, i < 8 → 2 ^ i < 256 := fun i hi => by
      have : 2 ^ i < 2 ^ 8 := Nat.pow_lt_pow_right (by omega) hi
      simpa using this
    refine two_same (fun b c => mulN (2 ^ i) (mulN b c)) (fun b c => mulN (mulN (2 ^ i) b) c) ?_ ?_ ?_ ?_ ?_ ?_ ?_ b hb c hc
    · intro b; simp only [zero_mul, mul_zero]
    · intro b; simp only [mul_zero]
    · intro a c b ha hc hb; simp only [mul_xor_left b ha hc, mul_xor_right]
    · intro a c b ha hc hb; simp only [mul_xor_right, mul_xor_left b (mulN_lt a (p256 i hi)) (mulN_lt c (p256 i hi))]
    · intro a b c _ _ _; simp only [mul_xor_right]
    · intro a b c _ _ _; simp only [mul_xor_right]
    · revert i; decide +kernel
  · rw [mul_xor_left _ ha hd, h1, h2, mul_xor_left _ ha hd, mul_xor_left _ (mulN_lt b ha) (mulN_lt b hd)]

theorem one_mul {a : Nat} (ha : a < 256) : mulN 1 a = a := by
  refine bit_induct (fun a => mulN 1 a = a) rfl ?_ (fun a b _ _ h1 h2 => by rw [mul_xor_right, h1, h2]) a ha
  decide +kernel
theorem mul_one {a : Nat} (ha : a < 256) : mulN a 1 = a := by rw [mul_comm ha (by omega), one_mul ha]

/-! The product by long division. -/

def polyTo : Nat → Nat → Nat → Nat
  | 0, _, _ => 0
  | n + 1, a, b => polyTo n a b ^^^ sel b n (a * 2 ^ n)
/-- The bits from 14 on down, so many of them, taken out. -/
def redTo : Nat → Nat → Nat
  | 0, v => v
  | m + 1, v => redTo m v ^^^ sel (redTo m v) (14 - m) (285 * 2 ^ (6 - m))
def refN (a b : Nat) : Nat := redTo 7 (polyTo 8 a b) % 256

theorem mul_xor_pow (a b n : Nat) : (a ^^^ b) * 2 ^ n = a * 2 ^ n ^^^ b * 2 ^ n := by
  have := Nat.shiftLeft_xor_distrib (a := a) (b := b) (i := n)
  simpa [Nat.shiftLeft_eq] using this
theorem polyTo_xor_left (n a c b : Nat) : polyTo n (a ^^^ c) b = polyTo n a b ^^^ polyTo n c b := by
  induction n with
  | zero => exact (Nat.xor_self 0).symm
  | succ n ih => show polyTo n _ b ^^^ _ = _; rw [ih, mul_xor_pow, sel_sum, xor_swap]; rfl
theorem polyTo_xor_right (n a b c : Nat) : polyTo n a (b ^^^ c) = polyTo n a b ^^^ polyTo n a c := by
  induction n with
  | zero => exact (Nat.xor_self 0).symm
  | succ n ih => show polyTo n a _ ^^^ _ = _; rw [ih, sel_xor, xor_swap]; rfl
theorem redTo_xor (m v u : Nat) : redTo m (v ^^^ u) = redTo m v ^^^ redTo m u := by
  induction m with
  | zero => rfl
  | succ m ih => show redTo m _ ^^^ _ = _; rw [ih, sel_xor, xor_swap]; rfl
theorem polyTo_zero_left (n b : Nat) : polyTo n 0 b = 0 := by
  induction n with
  | zero => rfl
  | succ n ih => show polyTo n 0 b ^^^ _ = _; rw [ih, Nat.zero_mul]; unfold sel; split <;> rfl
theorem polyTo_zero_right (n a : Nat) : polyTo n a 0 = 0 := by
  induction n with
  | zero => rfl
  | succ n ih => show polyTo n a 0 ^^^ _ = _; rw [ih]; unfold sel; simp
theorem refN_eq {a b : Nat} (ha : a < 256) (hb : b < 256) : refN a b = mulN a b :=
  two_same refN mulN (fun b => by rw [zero_mul]; unfold refN; rw [polyTo_zero_left]; rfl) (fun a => by rw [mul_zero]; unfold refN; rw [polyTo_zero_right]; rfl)
    (fun a c b _ _ _ => by unfold refN; rw [polyTo_xor_left, redTo_xor, mod_xor8]) (fun a c b ha hc _ => mul_xor_left b ha hc)
    (fun a b c _ _ _ => by unfold refN; rw [polyTo_xor_right, redTo_xor, mod_xor8]) (fun a b c _ _ _ => mul_xor_right a b c)
    (by decide +kernel) a ha b hb

theorem xor_lt_pow {a b n : Nat} (ha : a < 2 ^ n) (hb : b < 2 ^ n) : a ^^^ b < 2 ^ n := Nat.xor_lt_two_pow ha hb
theorem polyTo_lt (n : Nat) (hn : n ≤ 8) {a : Nat} (b : Nat) (ha : a < 256) : polyTo n a b < 32768 := by
  induction n with
  | zero => exact Nat.zero_lt_succ _
  | succ n ih =>
    have h1 : a * 2 ^ n < 2 ^ 15 := by
      have h2 : 2 ^ n ≤ 2 ^ 7 := Nat.pow_le_pow_right (by omega) (by omega)
      have h3 : a * 2 ^ n ≤ 255 * 2 ^ 7 := Nat.mul_le_mul (by omega) h2
      omega
    have h4 : sel b n (a * 2 ^ n) < 2 ^ 15 := by unfold sel; split <;> omega
    exact xor_lt_pow (n := 15) (ih (by omega)) h4
theorem redTo_lt (m : Nat) {v : Nat} (hv : v < 32768) : redTo m v < 32768 := by
  induction m with
  | zero => exact hv
  | succ m ih =>
    have h1 : 285 * 2 ^ (6 - m) < 2 ^ 15 := by
      have h2 : 2 ^ (6 - m) ≤ 2 ^ 6 := Nat.pow_le_pow_right (by omega) (by omega)
      omega
    have h4 : sel (redTo m v) (14 - m) (285 * 2 ^ (6 - m)) < 2 ^ 15 := by unfold sel; split <;> omega
    exact xor_lt_pow (n := 15) ih h4

/-! Powers. -/

def powN (a : Nat) : Nat → Nat
  | 0 => 1
  | n + 1 => mulN (powN a n) a
theorem powN_lt {a : Nat} (ha : a < 256) (n : Nat) : powN a n < 256 := by
  cases n with
  | zero => exact Nat.lt_of_sub_eq_succ rfl
  | succ n => rw [show powN a (n + 1) = mulN (powN a n) a from rfl, mul_comm (by exact powN_lt ha n) ha]; exact mulN_lt _ ha
theorem powN_add {a : Nat} (ha : a < 256) (m n : Nat) : powN a (m + n) = mulN (powN a m) (powN a n) := by
  induction n with
  | zero => exact (mul_one (powN_lt ha m)).symm
  | succ n ih => show mulN (powN a (m + n)) a = mulN _ (mulN _ a); rw [ih, mul_assoc (powN_lt ha m) (powN_lt ha n) ha]
theorem powN_sq {a : Nat} (ha : a < 256) (n : Nat) : powN (mulN a a) n = powN a (2 * n) := by
  induction n with
  | zero => rfl
  | succ n ih =>
    show mulN (powN (mulN a a) n) (mulN a a) = _
    rw [ih, show 2 * (n + 1) = 2 * n + 2 by omega, powN_add ha]
    show _ = mulN _ (mulN (mulN 1 a) a)
    rw [one_mul ha]
theorem powN_one {a : Nat} (ha : a < 256) : powN a 1 = a := by show mulN 1 a = a; exact one_mul ha
/-- The rest of a power by squares: what is left goes on. -/
theorem pow_odd {p a k : Nat} (hp : p < 256) (ha : a < 256) (h : k % 2 = 1) : mulN (mulN p a) (powN (mulN a a) (k / 2)) = mulN p (powN a k) := by
  have e : k = 1 + 2 * (k / 2) := by omega
  conv => rhs; rw [e, powN_add ha, powN_one ha]
  rw [powN_sq ha, ← mul_assoc hp ha (powN_lt ha _)]
theorem pow_even {p a k : Nat} (ha : a < 256) (h : k % 2 = 0) : mulN p (powN (mulN a a) (k / 2)) = mulN p (powN a k) := by
  have e : k = 2 * (k / 2) := by omega
  conv => rhs; rw [e]
  rw [powN_sq ha]

/-- By squares, for the kernel. -/
def pw2 (a : Nat) : Nat → Nat
  | 0 => a
  | n + 1 => mulN (pw2 a n) (pw2 a n)
theorem pw2_eq {a : Nat} (ha : a < 256) (n : Nat) : pw2 a n = powN a (2 ^ n) := by
  induction n with
  | zero => exact (powN_one ha).symm
  | succ n ih => show mulN (pw2 a n) (pw2 a n) = _; rw [ih, ← powN_add ha]; congr 1; rw [Nat.pow_succ]; omega
theorem inv_known : ∀ a, a < 256 → a ≠ 0 → mulN (pw2 a 0) (mulN (pw2 a 1) (mulN (pw2 a 2) (mulN (pw2 a 3) (mulN (pw2 a 4) (mulN (pw2 a 5) (mulN (pw2 a 6) (pw2 a 7))))))) = 1 := by decide +kernel
/-- A number, but 0, times its power 254 is 1. -/
theorem pow_255 {a : Nat} (ha : a < 256) (h : a ≠ 0) : powN a 255 = 1 := by
  have h1 := inv_known a ha h
  simp only [pw2_eq ha, ← powN_add ha] at h1
  exact h1
theorem mul_inv {a : Nat} (ha : a < 256) (h : a ≠ 0) : mulN a (powN a 254) = 1 := by
  have e := powN_add ha 1 254
  rw [powN_one ha] at e
  rw [← e]; exact pow_255 ha h

/-! The loop of the product by doubling. -/

theorem mulTo_high {a b n : Nat} (h : b / 2 ^ n = 0) (m : Nat) : mulTo (n + m) a b = mulTo n a b := by
  induction m with
  | zero => rfl
  | succ m ih =>
    show mulTo (n + m) a b ^^^ sel b (n + m) _ = _
    have hb : b < 2 ^ n := (Nat.div_eq_zero_iff_lt (Nat.two_pow_pos n)).1 h
    have hb2 : b < 2 ^ (n + m) := Nat.lt_of_lt_of_le hb (Nat.pow_le_pow_right (by omega) (by omega))
    rw [ih]
    unfold sel
    rw [Nat.testBit_lt_two_pow hb2]
    simp
theorem mulTo_done {a b n : Nat} (hn : n ≤ 8) (h : b / 2 ^ n = 0) : mulTo n a b = mulN a b := by
  have := mulTo_high (a := a) h (8 - n)
  rw [show n + (8 - n) = 8 by omega] at this
  exact this.symm
theorem bit_of (b n : Nat) : b.testBit n = decide (b / 2 ^ n % 2 = 1) := Nat.testBit_eq_decide_div_mod_eq
theorem mulTo_one {a b n : Nat} (h : b / 2 ^ n % 2 = 1) : mulTo (n + 1) a b = mulTo n a b ^^^ dblN n a := by
  show _ ^^^ sel b n _ = _
  unfold sel
  rw [bit_of]; simp [h]
theorem mulTo_none {a b n : Nat} (h : ¬ b / 2 ^ n % 2 = 1) : mulTo (n + 1) a b = mulTo n a b := by
  show _ ^^^ sel b n _ = _
  unfold sel
  rw [bit_of]; simp [h]
theorem polyTo_one {a b n : Nat} (h : b / 2 ^ n % 2 = 1) : polyTo (n + 1) a b = polyTo n a b ^^^ a * 2 ^ n := by
  show _ ^^^ sel b n _ = _
  unfold sel
  rw [bit_of]; simp [h]
theorem polyTo_none {a b n : Nat} (h : ¬ b / 2 ^ n % 2 = 1) : polyTo (n + 1) a b = polyTo n a b := by
  show _ ^^^ sel b n _ = _
  unfold sel
  rw [bit_of]; simp [h]
theorem redTo_one {m v : Nat} (h : redTo m v / 2 ^ (14 - m) % 2 = 1) : redTo (m + 1) v = redTo m v ^^^ 285 * 2 ^ (6 - m) := by
  show _ ^^^ sel _ _ _ = _
  unfold sel
  rw [bit_of]; simp [h]
theorem redTo_none {m v : Nat} (h : ¬ redTo m v / 2 ^ (14 - m) % 2 = 1) : redTo (m + 1) v = redTo m v := by
  show _ ^^^ sel _ _ _ = _
  unfold sel
  rw [bit_of]; simp [h]

end Go.Proofs.YtfgaohilpbocbaaGreatDoor
end

section
namespace Go.Proofs.YtfgaohilpbocbaaGreatDoor
open Go.ChangeShapes Go.WideShapes Go.ChangeAt Go.RowKit
set_option linter.unusedVariables false

theorem ret_u8 {a b : Nat} (h : a = b) : Ending.returned (.int .u8 (a : Int)) = .returned (.int .u8 (b : Int)) := by rw [h]

theorem u8_of_wf {a : Int} (h : (Lit.int .u8 a).wf = true) : ∃ n : Nat, n < 256 ∧ a = (n : Int) := by
  have hb : 0 ≤ a ∧ a ≤ 255 := by simpa [Lit.wf, IntKind.min, IntKind.max, IntKind.signed, IntKind.bits] using h
  exact ⟨a.toNat, by omega, by omega⟩

theorem xor8 (a b : Nat) (ha : a < 256) (hb : b < 256) : bits .xor .u8 (a : Int) (b : Int) = ((a ^^^ b : Nat) : Int) := u8_xor_nat a b ha hb
theorem and8 (a : Nat) (ha : a < 256) : bits .and .u8 (a : Int) 1 = ((a % 2 : Nat) : Int) := by
  have := u8_and_nat a 1 ha (by omega)
  rw [nat_mask1] at this
  exact this

theorem add_any (a b : Nat) (ha : a < 256) (hb : b < 256) (w : World) :
    Calls Tryz.prog 188 #[.int .u8 (a : Int), .int .u8 (b : Int)] w fun e w' => e = .returned (.int .u8 ((a ^^^ b : Nat) : Int)) ∧ w = w' := by
  have e1 := xor8 a b ha hb
  go_enter Tryz.func188, Tryz.ntmps188
  go_wp2
  go_ret
  exact ⟨rfl, rfl⟩

theorem double_any (a : Nat) (ha : a < 256) (w : World) :
    Calls Tryz.prog 232 #[.int .u8 (a : Int)] w fun e w' => e = .returned (.int .u8 ((dbl a : Nat) : Int)) ∧ w = w' := by
  by_cases h : 128 ≤ a
  · have e1 : bits .xor .u8 ((a : Int) * 2 % 256) 29 = ((a * 2 % 256 ^^^ 29 : Nat) : Int) := xor8 (a * 2 % 256) 29 (by omega) (by omega)
    have HD := Lib.hid (show dbl a = a * 2 % 256 ^^^ 29 by unfold dbl; rw [if_pos h])
    go_enter Tryz.func232, Tryz.ntmps232
    go_wp2
    go_ret
    exact ⟨ret_u8 HD.out.symm, rfl⟩
  · have HD := Lib.hid (show dbl a = a * 2 by unfold dbl; rw [if_neg h])
    go_enter Tryz.func232, Tryz.ntmps232
    go_wp2
    go_ret
    exact ⟨ret_u8 HD.out.symm, rfl⟩

theorem half (y : Nat) : (y : Int) / 2 = ((y / 2 : Nat) : Int) := by omega

set_option maxHeartbeats 400000 in
theorem mul_any (a b : Nat) (ha : a < 256) (hb : b < 256) (w : World) :
    Calls Tryz.prog 211 #[.int .u8 (a : Int), .int .u8 (b : Int)] w fun e w' => e = .returned (.int .u8 ((mulN a b : Nat) : Int)) ∧ w = w' := by
  go_enter Tryz.func211, Tryz.ntmps211
  go_wp2
  go_loop [0, 1, 5] (fun x y p => ∃ k : Nat, k ≤ 8 ∧ x = .int .u8 ((dblN k a : Nat) : Int) ∧ y = .int .u8 ((b / 2 ^ k : Nat) : Int) ∧ p = .int .u8 ((mulTo k a b : Nat) : Int)) (fun _ y _ => (intOf y).toNat)
  case atStart => exact ⟨0, by omega, rfl, by simp, rfl⟩
  case round =>
    obtain ⟨k, hk, rfl, rfl, rfl⟩ := hrel
    have hx := dblN_lt k ha
    have hy : b / 2 ^ k < 256 := Nat.lt_of_le_of_lt (Nat.div_le_self _ _) hb
    have hp := mulTo_lt k b ha
    by_cases h0 : b / 2 ^ k = 0
    · have HE := Lib.hid (mulTo_done (a := a) hk h0)
      rw [h0]
      clear h0
      generalize mulTo k a b = p at *
      have z : (((0 : Nat) : Int) != 0) = false := rfl
      go_wp2
      go_ret
      exact ⟨ret_u8 HE.out, rfl⟩
    · have HN := Lib.hid (show b / 2 ^ (k + 1) = b / 2 ^ k / 2 by rw [Nat.pow_succ, Nat.div_div_eq_div_mul])
      have h8 : k < 8 := by
        by_cases h : k = 8
        · subst h; omega
        · omega
      have HX := Lib.hid (show dblN (k + 1) a = dbl (dblN k a) from rfl)
      by_cases h1 : b / 2 ^ k % 2 = 1
      · have HM := Lib.hid (mulTo_one (a := a) h1)
        generalize dblN k a = x at *
        generalize mulTo k a b = p at *
        generalize b / 2 ^ k = y at *
        have ea := and8 y hy
        rw [h1] at ea
        have ex := xor8 p x hp hx
        have hn : ((y : Int) != 0) = true := by simp; omega
        have hpos : 0 < y := by omega
        have he : (((1 : Nat) : Int) == 1) = true := rfl
        clear h0 h1
        go_wp2_with (go_at_call 232; refine (double_any _ hx _).mono ?_; rintro e w' ⟨rfl, rfl⟩)
        go_round
        case rel => exact ⟨k + 1, by omega, by rw [HX.out], by rw [HN.out]; first | rfl | go_num, by rw [HM.out]⟩
        case measure => simp [intOf]; omega
      · have HM := Lib.hid (mulTo_none (a := a) h1)
        have h2 : b / 2 ^ k % 2 = 0 := by omega
        generalize dblN k a = x at *
        generalize mulTo k a b = p at *
        generalize b / 2 ^ k = y at *
        have ea := and8 y hy
        rw [h2] at ea
        have hn : ((y : Int) != 0) = true := by simp; omega
        have hpos : 0 < y := by omega
        have he : (((0 : Nat) : Int) == 1) = false := rfl
        clear h0 h1 h2
        go_wp2_with (go_at_call 232; refine (double_any _ hx _).mono ?_; rintro e w' ⟨rfl, rfl⟩)
        go_round
        case rel => exact ⟨k + 1, by omega, by rw [HX.out], by rw [HN.out]; first | rfl | go_num, by rw [HM.out]⟩
        case measure => simp [intOf]; omega

/-! The document's product. -/

theorem bit1 (b k : Nat) (hb : b < 256) : bits .and .u8 ((b : Int) / 2 ^ k) 1 = ((b / 2 ^ k % 2 : Nat) : Int) := by
  have e : ((b : Int) / 2 ^ k) = ((b / 2 ^ k : Nat) : Int) := by simp
  rw [e]
  exact and8 _ (Nat.lt_of_le_of_lt (Nat.div_le_self _ _) hb)

theorem i64_small (n : Nat) (h : n < 9223372036854775808) : IntKind.i64.wrap (n : Int) = (n : Int) := by
  have e : (n : Int) % 2 ^ 64 = n := Int.emod_eq_of_lt (by omega) (by omega)
  simp only [IntKind.wrap, IntKind.bits, IntKind.signed, e]
  rw [if_neg]
  simp
  omega
theorem xor64 (a b : Nat) (ha : a < 32768) (hb : b < 32768) : bits .xor .i64 (a : Int) (b : Int) = ((a ^^^ b : Nat) : Int) := by
  have hx : a ^^^ b < 2 ^ 15 := Nat.xor_lt_two_pow (by omega) (by omega)
  show IntKind.i64.wrap ((BitVec.ofInt 64 (a : Int) ^^^ BitVec.ofInt 64 (b : Int)).toNat : Int) = _
  rw [BitVec.toNat_xor, ofInt_u64 a (by omega), ofInt_u64 b (by omega)]
  exact i64_small _ (by omega)
theorem and64 (a : Nat) (ha : a < 32768) : bits .and .i64 (a : Int) 1 = ((a % 2 : Nat) : Int) := by
  show IntKind.i64.wrap ((BitVec.ofInt 64 (a : Int) &&& BitVec.ofInt 64 ((1 : Nat) : Int)).toNat : Int) = _
  rw [BitVec.toNat_and, ofInt_u64 a (by omega), ofInt_u64 1 (by omega), nat_mask1]
  exact i64_small _ (by omega)
theorem shl64 (v a k : Nat) (hv : v < 32768) (ha : a * 2 ^ k < 32768) : bits .xor .i64 (v : Int) (wrap64 ((a : Int) * 2 ^ k)) = ((v ^^^ a * 2 ^ k : Nat) : Int) := by
  have e : ((a : Int) * 2 ^ k) = ((a * 2 ^ k : Nat) : Int) := by simp
  have e2 : wrap64 ((a * 2 ^ k : Nat) : Int) = ((a * 2 ^ k : Nat) : Int) := by
    rw [IntWalk.wrap64_in]; omega
  rw [e, e2]
  exact xor64 _ _ hv ha
theorem bit64 (v k : Nat) (hv : v < 32768) : bits .and .i64 ((v : Int) / 2 ^ k) 1 = ((v / 2 ^ k % 2 : Nat) : Int) := by
  have e : ((v : Int) / 2 ^ k) = ((v / 2 ^ k : Nat) : Int) := by simp
  rw [e]
  exact and64 _ (Nat.lt_of_le_of_lt (Nat.div_le_self _ _) hv)
theorem shl_lt {a k : Nat} (ha : a < 256) (hk : k < 8) : a * 2 ^ k < 32768 := by
  have h2 : 2 ^ k ≤ 2 ^ 7 := Nat.pow_le_pow_right (by omega) (by omega)
  have h3 : a * 2 ^ k ≤ 255 * 2 ^ 7 := Nat.mul_le_mul (by omega) h2
  omega
theorem low_byte (v : Nat) : (v : Int) % 256 = ((v % 256 : Nat) : Int) := by omega

end Go.Proofs.YtfgaohilpbocbaaGreatDoor
end
