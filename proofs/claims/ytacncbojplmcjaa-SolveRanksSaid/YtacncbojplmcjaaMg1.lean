/-
  Lists of bytes in memory: one that came in, one that a call fills.
  Equations (slices of slices of cells) that came in.
  A frame: blocks that X doesn't name stay.
  Whether they are equations: package peel's Right, and the document's.
-/
import Derived.Test.YtacncbojplmcjaaRows
import Derived.WalkKit
import Derived.ProofKit
import Derived.OpenShut
import Derived.Below
import Derived.WalkSpells
import Derived.WalkLawsBesides
import Derived.Outline
import Derived.Deep.QuietTactic
import Derived.BigQuiet
import Derived.Lib.Hide
import Derived.Laws.BitsAllLaws
import Derived.Lib.SmallJoins
import Derived.Deep.WholeRow
import Derived.Deep.OwnRows
import Derived.Laws.BytesArg
import Derived.LaidMore
import Derived.Stop.Joined
import Derived.SizedLaws
import Derived.ChangeOld
import Derived.Deep.Slices
import Derived.Laws.AppendOwn
import Derived.Deep.LoopGhost
section
namespace Go.Proofs.Ytacncbojplmcjaa
open Go.ChangeShapes Go.WideShapes Go.ChangeAt Go.RowKit Go.Joins
set_option linter.unusedVariables false

/-- What a law's call ends with. -/
def TrueAnd (w : World) (e : Ending) (w' : World) : Prop := e = .returned (.bool true) ∧ Below w.heap.size w w'
theorem ret_bool {a b : Bool} (h : a = b) : Ending.returned (.bool a) = .returned (.bool b) := by rw [h]

def IsByte (l : List Nat) : Prop := ∀ n ∈ l, n < 256
/-- Cells from a place on hold these bytes. -/
def BytesIn (w : World) (b off : Nat) (l : List Nat) : Prop := ∀ i (h : i < l.length), w.cell? ⟨b, off + i, none⟩ = some (.int .u8 ((l[i] : Nat) : Int))
/-- A slice of bytes: nothing to read, or cells from a place on. -/
def BytesAt (w : World) (a : Option Addr) (l : List Nat) : Prop := l = [] ∨ ∃ b off, a = some ⟨b, off, none⟩ ∧ BytesIn w b off l

theorem BytesIn.below {w w' : World} {B b off : Nat} {l : List Nat} (h : BytesIn w b off l) (hB : w.heap.size ≤ B) (hb : Below B w w') : BytesIn w' b off l := fun i hi => by
  rw [hb.cell (p := ⟨b, off + i, none⟩) (Nat.lt_of_lt_of_le (World.block_lt_of_cell? w _ (h i hi)) hB)]; exact h i hi

theorem BytesAt.below {w w' : World} {B : Nat} {a : Option Addr} {l : List Nat} (h : BytesAt w a l) (hB : w.heap.size ≤ B) (hb : Below B w w') : BytesAt w' a l := by
  rcases h with h | ⟨b, off, e, h⟩
  · exact .inl h
  · exact .inr ⟨b, off, e, h.below hB hb⟩

/-- The slice '.slice a l.length cap' reads as l. -/
structure Sl (w : World) (a : Option Addr) (cap : Nat) (l : List Nat) : Prop where
  byte : IsByte l
  len : l.length ≤ cap
  most : cap ≤ maxLen
  none : a = none → l = [] ∧ cap = 0
  here : BytesAt w a l

theorem Sl.below {w w' : World} {a : Option Addr} {cap : Nat} {l : List Nat} (h : Sl w a cap l) (hb : Below w.heap.size w w') : Sl w' a cap l :=
  ⟨h.byte, h.len, h.most, h.none, h.here.below (Nat.le_refl _) hb⟩
theorem Sl.drewN {w : World} {a : Option Addr} {cap : Nat} {l : List Nat} (h : Sl w a cap l) (n : Nat) : Sl (w.drewN n) a cap l := ⟨h.byte, h.len, h.most, h.none, h.here⟩
theorem Sl.drew {w : World} {a : Option Addr} {cap : Nat} {l : List Nat} (h : Sl w a cap l) : Sl w.drew a cap l := ⟨h.byte, h.len, h.most, h.none, h.here⟩
theorem Sl.lt {w : World} {a : Option Addr} {cap : Nat} {l : List Nat} (h : Sl w a cap l) : l.length ≤ 9223372036854775807 := by
  have h1 := h.len
  have h2 := h.most
  unfold maxLen at h2
  omega
theorem Sl.some {w : World} {a : Option Addr} {cap : Nat} {l : List Nat} (h : Sl w a cap l) {k : Nat} (hk : k < l.length) : ∃ b off, a = some ⟨b, off, Option.none⟩ ∧ BytesIn w b off l := by
  rcases h.here with rfl | h
  · simp at hk
  · exact h
theorem nil_sl (w : World) : Sl w Option.none 0 [] := ⟨by simp [IsByte], by simp, by simp, fun _ => ⟨rfl, rfl⟩, .inl rfl⟩

/-- Block B is a row of n cells; the first k are as g says. -/
def Row (w : World) (B : Nat) (ty : TypeId) (n k : Nat) (g : Nat → Value) : Prop :=
  ∃ cs, w.heap[B]? = some (.cells cs ty (0, 0)) ∧ cs.size = n ∧ ∀ j, j < k → cs[j]? = some (g j)

theorem Row.cell {w : World} {B : Nat} {ty : TypeId} {n k : Nat} {g : Nat → Value} (h : Row w B ty n k g) (j : Nat) (hj : j < k) : w.cell? ⟨B, j, none⟩ = some (g j) := by
  obtain ⟨cs, h1, _, h3⟩ := h
  rw [cell_of_block h1]; exact h3 j hj

theorem Row.has {w : World} {B : Nat} {ty : TypeId} {n k : Nat} {g : Nat → Value} (h : Row w B ty n k g) (j : Nat) (hj : j < n) : ∃ v, w.cell? ⟨B, j, none⟩ = some v := by
  obtain ⟨cs, h1, h2, _⟩ := h
  exact ⟨cs[j], by rw [cell_of_block h1]; simp [h2, hj]⟩

theorem Row.loose {w : World} {B : Nat} {ty : TypeId} {n k : Nat} {g : Nat → Value} (h : Row w B ty n k g) (j : Nat) : w.frozen? ⟨B, j, none⟩ = false := by
  obtain ⟨cs, h1, _, _⟩ := h
  exact unfrozen_of_block h1 j

theorem Row.lt {w : World} {B : Nat} {ty : TypeId} {n k : Nat} {g : Nat → Value} (h : Row w B ty n k g) : B < w.heap.size := by
  obtain ⟨cs, h1, _, _⟩ := h
  exact (Array.getElem?_eq_some_iff.1 h1).1

theorem Row.set {w : World} {B : Nat} {ty : TypeId} {n k : Nat} {g : Nat → Value} (h : Row w B ty n k g) (hk : k < n) {v : Value} (hv : v = g k) : Row (w.setCell ⟨B, k, none⟩ v) B ty n (k + 1) g := by
  obtain ⟨cs, h1, h2, h3⟩ := h
  refine ⟨cs.setIfInBounds k v, block_setCell h1 v, by simp [h2], fun j hj => ?_⟩
  by_cases e : j = k
  · subst e; simp [h2, hk, hv]
  · rw [Array.getElem?_setIfInBounds_ne (by omega)]; exact h3 j (by omega)

/-- A cell of a row is written. -/
theorem Row.upd {w : World} {B : Nat} {ty : TypeId} {n m : Nat} {g : Nat → Value} (h : Row w B ty n m g) (k : Nat) (hk : k < n) (v : Value) : Row (w.setCell ⟨B, k, none⟩ v) B ty n m (fun j => if j = k then v else g j) := by
  obtain ⟨cs, h1, h2, h3⟩ := h
  refine ⟨cs.setIfInBounds k v, Joins.block_setCell h1 v, by simp [h2], fun j hj => ?_⟩
  by_cases e : j = k
  · subst e; simp [h2, hk]
  · rw [Array.getElem?_setIfInBounds_ne (by omega)]; simp only [e, if_false]; exact h3 j hj

/-- Another block is written. -/
theorem Row.other {w : World} {B C : Nat} {ty : TypeId} {n k i : Nat} {g : Nat → Value} {v : Value} (h : Row w B ty n k g) (hne : B ≠ C) : Row (w.setCell ⟨C, i, none⟩ v) B ty n k g := by
  obtain ⟨cs, h1, h2, h3⟩ := h
  exact ⟨cs, by rw [Below.heap_setCell _ _ _ _ hne]; exact h1, h2, h3⟩

theorem Row.below {w w' : World} {B C : Nat} {ty : TypeId} {n k : Nat} {g : Nat → Value} (h : Row w B ty n k g) (hb : Below C w w') (hC : B < C) : Row w' B ty n k g := by
  obtain ⟨cs, h1, h2, h3⟩ := h
  exact ⟨cs, by rw [hb.block _ hC]; exact h1, h2, h3⟩

theorem Row.drew {w : World} {B : Nat} {ty : TypeId} {n k : Nat} {g : Nat → Value} (h : Row w B ty n k g) (q : Nat) : Row (w.drewN q) B ty n k g := h

theorem Row.mono {w : World} {B : Nat} {ty : TypeId} {n k m : Nat} {g f : Nat → Value} (h : Row w B ty n k g) (hm : m ≤ k) (hf : ∀ j, j < m → g j = f j) : Row w B ty n m f := by
  obtain ⟨cs, h1, h2, h3⟩ := h
  exact ⟨cs, h1, h2, fun j hj => by rw [h3 j (by omega), hf j hj]⟩

/-- What a whole row holds. -/
def rowArr (n : Nat) (g : Nat → Value) : Array Value := ((List.range n).map g).toArray

theorem rowArr_size (n : Nat) (g : Nat → Value) : (rowArr n g).size = n := by simp [rowArr]

theorem Row.whole {w : World} {B : Nat} {ty : TypeId} {n : Nat} {g : Nat → Value} (h : Row w B ty n n g) : w.heap[B]? = some (.cells (rowArr n g) ty (0, 0)) := by
  obtain ⟨cs, h1, h2, h3⟩ := h
  have : cs = rowArr n g := by
    apply Array.ext_getElem?
    intro i
    by_cases hi : i < n
    · rw [h3 i hi]; simp [rowArr, hi]
    · simp [rowArr, h2, hi]
  rw [← this]; exact h1

theorem Row.of_whole {w : World} {B : Nat} {ty : TypeId} {n : Nat} {g : Nat → Value} (h : w.heap[B]? = some (.cells (rowArr n g) ty (0, 0))) : Row w B ty n n g :=
  ⟨_, h, rowArr_size n g, fun j hj => by simp [rowArr, hj]⟩

/-- A new block, nothing known of it but its length. -/
theorem Row.new (w : World) (cs : Array Value) (ty : TypeId) (g : Nat → Value) : Row (w.alloc (.cells cs ty)) w.heap.size ty cs.size 0 g :=
  ⟨cs, heap_alloc_last w _, rfl, fun j hj => by omega⟩

theorem Row.new' (w : World) (cs : Array Value) (ty : TypeId) (g : Nat → Value) (B n : Nat) (hB : B = w.heap.size) (hn : cs.size = n) : Row (w.alloc (.cells cs ty)) B ty n 0 g := by
  subst hB hn; exact Row.new w cs ty g

theorem Row.new_whole (w : World) (cs : Array Value) (ty : TypeId) (g : Nat → Value) (B n : Nat) (hB : B = w.heap.size) (hn : cs = rowArr n g) : Row (w.alloc (.cells cs ty)) B ty n n g := by
  subst hB hn; exact Row.of_whole (heap_alloc_last w _)

theorem Row.alloc {w : World} {B : Nat} {ty : TypeId} {n k : Nat} {g : Nat → Value} (h : Row w B ty n k g) (o : Obj) : Row (w.alloc o) B ty n k g := by
  have hlt := h.lt
  obtain ⟨cs, h1, h2, h3⟩ := h
  exact ⟨cs, by rw [Below.heap_alloc _ _ _ hlt]; exact h1, h2, h3⟩

/-- A whole row is written, in a block of the call's own. -/
theorem below_setRow {B g : Nat} {a w : World} (h : Below B a w) (hg : B ≤ g) (cs : Array Value) : Below B a (w.setRow g cs) :=
  h.trans ⟨setRow_os _ _ _, setRow_tape _ _ _, setRow_output _ _ _, by simp [World.setRow], fun k hk => setRow_other _ _ _ _ (by omega)⟩

theorem Row.whole_set {w : World} {B : Nat} {ty : TypeId} {n k : Nat} {g f : Nat → Value} (h : Row w B ty n k g) : Row (w.setRow B (rowArr n f)) B ty n n f := by
  obtain ⟨cs, h1, _, _⟩ := h
  exact Row.of_whole (setRow_heap _ _ _ _ _ _ h1)

theorem Row.setRow_other {w : World} {B C : Nat} {ty : TypeId} {n k : Nat} {g : Nat → Value} (h : Row w B ty n k g) (hne : B ≠ C) (cs : Array Value) : Row (w.setRow C cs) B ty n k g := by
  obtain ⟨cs', h1, h2, h3⟩ := h
  exact ⟨cs', by rw [Go.setRow_other _ _ _ _ hne]; exact h1, h2, h3⟩


/-! Rows of bytes. -/

def byteV (c : Nat) : Value := .int .u8 (c : Int)
def vOf (l : List Nat) (j : Nat) : Value := byteV (l.getD j 0)
def zV (_ : Nat) : Value := .int .u8 0

theorem vOf_eq (l : List Nat) (j : Nat) (h : j < l.length) : vOf l j = .int .u8 ((l[j] : Nat) : Int) := by
  simp [vOf, byteV, List.getD, h]

theorem Row.sl {w : World} {B n : Nat} {l : List Nat} (h : Row w B 5 n n (vOf l)) (hn : l.length = n) (hb : IsByte l) (hm : n ≤ maxLen) : Sl w (some ⟨B, 0, none⟩) n l :=
  ⟨hb, by omega, hm, fun e => (by cases e), .inr ⟨B, 0, rfl, fun i hi => by rw [Nat.zero_add, h.cell i (by omega), vOf_eq l i hi]⟩⟩

theorem info8 : (Try.prog.info? 5).map (fun i => (i.zero, i.size, i.bytes)) = some (some (.int .u8 0), 1, 1) := by kernel_rfl

set_option maxRecDepth 100000 in
theorem make_row (n : Nat) (hn : n ≤ 1000000) (w : World) : (Instr.makeSlice 38 (.int .i64 (n : Int)) (.int .i64 (n : Int))).run Try.prog w = .ok (.slice (some ⟨w.heap.size, 0, none⟩) n n) (w.alloc (.cells (rowArr n zV) 5)) := by
  have h := run_make_row' (P := Try.prog) 38 5 (.int .u8 0) 1 Try.underlying38 info8 rfl .i64 .i64 n (by omega) (by omega) w
  rw [h]
  congr 3
  apply Array.ext
  · simp [madeCells, rowArr]
  · intro i h1 h2
    simp [madeCells, rowArr, zV, Nat.mod_one]

/-- Behind W a row of its own, the first k bytes of m in it. -/
structure NewTo (W w : World) (m : List Nat) (k : Nat) : Prop where
  below : Below W.heap.size W w
  row : Row w W.heap.size 5 m.length k (vOf m)

theorem new_start (w : World) (m : List Nat) (n : Nat) (hn : m.length = n) : NewTo w (w.alloc (.cells (rowArr n zV) 5)) m 0 := by
  subst hn
  exact ⟨(Below.refl _ _).alloc (Nat.le_refl _) _, (Row.new_whole w _ _ zV _ _ rfl rfl).mono (Nat.zero_le _) (fun j hj => by omega)⟩
theorem NewTo.drewN {W w : World} {m : List Nat} {k : Nat} (h : NewTo W w m k) (n : Nat) : NewTo W (w.drewN n) m k := ⟨⟨h.below.os, h.below.tape, h.below.output, h.below.size, h.below.block⟩, h.row⟩
theorem NewTo.drew {W w : World} {m : List Nat} {k : Nat} (h : NewTo W w m k) : NewTo W w.drew m k := ⟨h.below.drew, h.row⟩
theorem NewTo.set {W w : World} {m : List Nat} {k : Nat} (h : NewTo W w m k) (hk : k < m.length) {u : Value} (hu : u = .int .u8 ((m[k] : Nat) : Int)) : NewTo W (w.setCell ⟨W.heap.size, k, none⟩ u) m (k + 1) :=
  ⟨h.below.setCell (Nat.le_refl _) _, h.row.set hk (by rw [hu, vOf_eq m k hk])⟩
theorem NewTo.sl {W w : World} {m : List Nat} (h : NewTo W w m m.length) (hb : IsByte m) (hm : m.length ≤ 1000000) : Sl w (some ⟨W.heap.size, 0, none⟩) m.length m :=
  h.row.sl rfl hb (by unfold maxLen; omega)

/-! Strings of bytes. -/

def strOf (l : List Nat) : ByteArray := strOfNums (l.map fun n : Nat => (n : Int))

theorem conv_sl (w : World) (a : Option Addr) (cap : Nat) (l : List Nat) (h : Sl w a cap l) : (convert 38 9 (.slice a l.length cap)).run Try.prog w = .ok (.string (strOf l)) w := by
  rcases a with _ | a
  · obtain ⟨rfl, rfl⟩ := h.none rfl
    exact run_convert_bytes_nil w 38 5 Try.underlying38 Try.underlying5 _ _ 9 Try.underlying9
  · rcases h.here with rfl | ⟨b, off, e, hb⟩
    · have := run_bytesToString (P := Try.prog) w a 0 cap [] rfl
      rw [run_convert_bytes_string w 38 9 5 _ _ _ Try.underlying38 Try.underlying5 Try.underlying9]
      exact this
    · cases e
      refine run_convert_bytes_arg w 38 5 Try.underlying38 Try.underlying5 b off l.length cap _ (by simp) (fun i hi => ?_) 9 Try.underlying9
      rw [hb i hi]
      simp [List.getD, hi]

/-! A parameter. -/

theorem cells8 : Try.prog.cellsOf 5 = 1 := by kernel_rfl

/-- A list of bytes that came in. -/
theorem bytes_in {H : Type} {enc : TypeId × Value → H} {w : World} {base fuel : Nat} {spare : Nat → Bool} {held : Bool} {c : Value} {x : DataW H × List MemPlace}
    (h : DataW.trod enc Try.prog w base spare held fuel 38 [c] = some x) :
    ∃ (a : Option Addr) (cap : Nat) (l : List Nat), c = .slice a l.length cap ∧ Sl w a cap l := by
  rcases open_ints Try.underlying38 Try.underlying5 cells8 h with ⟨hcs, hx⟩ | ⟨a, len, cap, zs, hcs, _, hl, hm, hz, hx, hcell, hwz⟩
  · simp only [List.cons.injEq, and_true] at hcs
    exact ⟨none, 0, [], hcs, nil_sl w⟩
  · simp only [List.cons.injEq, and_true] at hcs
    have hlz : len ≤ zs.length := by rw [hz]; split <;> omega
    have hll : ((zs.take len).map Int.toNat).length = len := by simp; omega
    refine ⟨some a, cap, (zs.take len).map Int.toNat, by rw [hll]; exact hcs, fun n hn => ?_, by omega, hm, fun e => (by cases e), ?_⟩
    · obtain ⟨z, hz1, rfl⟩ := List.mem_map.1 hn
      have := hwz z (List.mem_of_mem_take hz1)
      have hb : 0 ≤ z ∧ z ≤ 255 := by simpa [Lit.wf, IntKind.min, IntKind.max, IntKind.signed, IntKind.bits] using this
      omega
    · by_cases h0 : len = 0
      · exact .inl (List.length_eq_zero_iff.1 (by omega))
      · obtain ⟨b, off, spot⟩ := a
        have hc0 := hcell 0 (by omega)
        have hspot : spot = none := by simpa [Addr.add] using World.cell?_spot hc0
        subst hspot
        refine .inr ⟨b, off, rfl, fun i hi => ?_⟩
        have hi2 : i < len := by omega
        have hci := hcell i (by omega)
        have hwi := hwz zs[i] (List.getElem_mem (by omega))
        have hb : 0 ≤ zs[i] ∧ zs[i] ≤ 255 := by simpa [Lit.wf, IntKind.min, IntKind.max, IntKind.signed, IntKind.bits] using hwi
        have e : zs.getD i 0 = zs[i] := by simp [List.getD, show i < zs.length by omega]
        rw [e] at hci
        have e2 : ((((zs.take len).map Int.toNat)[i] : Nat) : Int) = zs[i] := by simp; omega
        rw [e2, ← hci]
        by_cases hi0 : i = 0
        · subst hi0; simp [Addr.add]
        · simp [Addr.add, hi0]
end Go.Proofs.Ytacncbojplmcjaa
end

section
namespace Go.Proofs.Ytacncbojplmcjaa
open Go.ChangeShapes Go.WideShapes Go.ChangeAt Go.RowKit Go.Joins
set_option linter.unusedVariables false

/-- Cells as they come in: any place, any number. -/
abbrev Cz := List (Int × Nat)
abbrev Eqz := List Cz
/-- The slice '.slice a l.length cap' reads as these cells, wherever they lie. -/
structure Cr (w : World) (a : Option Addr) (cap : Nat) (l : Cz) : Prop where
  rng : ∀ x ∈ l, -9223372036854775808 ≤ x.1 ∧ x.1 ≤ 9223372036854775807 ∧ x.2 < 256
  len : l.length ≤ cap
  most : cap ≤ maxLen
  none : a = none → l = [] ∧ cap = 0
  here : l = [] ∨ ∃ b off, a = some ⟨b, off, Option.none⟩ ∧ b < w.heap.size ∧ ∀ i (h : i < l.length), w.cell? ⟨b, off + i * 2, Option.none⟩ = some (.int .i64 l[i].1) ∧ w.cell? ⟨b, off + i * 2 + 1, Option.none⟩ = some (.int .u8 ((l[i].2 : Nat) : Int))
theorem Cr.lt {w : World} {a : Option Addr} {cap : Nat} {l : Cz} (h : Cr w a cap l) : l.length ≤ 9223372036854775807 := by
  have h1 := h.len; have h2 := h.most; unfold maxLen at h2; omega
theorem Cr.some {w : World} {a : Option Addr} {cap : Nat} {l : Cz} (h : Cr w a cap l) {k : Nat} (hk : k < l.length) :
    ∃ b off, a = some ⟨b, off, Option.none⟩ ∧ b < w.heap.size ∧ ∀ i (h : i < l.length), w.cell? ⟨b, off + i * 2, Option.none⟩ = some (.int .i64 l[i].1) ∧ w.cell? ⟨b, off + i * 2 + 1, Option.none⟩ = some (.int .u8 ((l[i].2 : Nat) : Int)) := by
  rcases h.here with rfl | r
  · simp at hk
  · exact r
theorem Cr.below {w w' : World} {a : Option Addr} {cap : Nat} {l : Cz} (h : Cr w a cap l) (k : Below w.heap.size w w') : Cr w' a cap l :=
  ⟨h.rng, h.len, h.most, h.none, by
    rcases h.here with e | ⟨b, off, e, hb, hc⟩
    · exact .inl e
    · exact .inr ⟨b, off, e, Nat.lt_of_lt_of_le hb k.size, fun i hi => by
        rw [k.cell (p := ⟨b, off + i * 2, Option.none⟩) hb, k.cell (p := ⟨b, off + i * 2 + 1, Option.none⟩) hb]; exact hc i hi⟩⟩

/-- The slice '.slice a es.length cap' reads as these equations. -/
structure Er (w : World) (a : Option Addr) (cap : Nat) (es : Eqz) : Prop where
  len : es.length ≤ cap
  most : cap ≤ maxLen
  none : a = none → es = [] ∧ cap = 0
  here : es = [] ∨ ∃ b off, a = some ⟨b, off, Option.none⟩ ∧ b < w.heap.size ∧ ∀ i (h : i < es.length), ∃ a' c', w.cell? ⟨b, off + i, Option.none⟩ = some (.slice a' es[i].length c') ∧ Cr w a' c' es[i]
theorem Er.lt {w : World} {a : Option Addr} {cap : Nat} {es : Eqz} (h : Er w a cap es) : es.length ≤ 9223372036854775807 := by
  have h1 := h.len; have h2 := h.most; unfold maxLen at h2; omega
theorem Er.some {w : World} {a : Option Addr} {cap : Nat} {es : Eqz} (h : Er w a cap es) {k : Nat} (hk : k < es.length) :
    ∃ b off, a = some ⟨b, off, Option.none⟩ ∧ b < w.heap.size ∧ ∀ i (h : i < es.length), ∃ a' c', w.cell? ⟨b, off + i, Option.none⟩ = some (.slice a' es[i].length c') ∧ Cr w a' c' es[i] := by
  rcases h.here with rfl | r
  · simp at hk
  · exact r
theorem Er.below {w w' : World} {a : Option Addr} {cap : Nat} {es : Eqz} (h : Er w a cap es) (k : Below w.heap.size w w') : Er w' a cap es :=
  ⟨h.len, h.most, h.none, by
    rcases h.here with e | ⟨b, off, e, hb, hc⟩
    · exact .inl e
    · exact .inr ⟨b, off, e, Nat.lt_of_lt_of_le hb k.size, fun i hi => by
        obtain ⟨a', c', e1, e2⟩ := hc i hi
        exact ⟨a', c', by rw [k.cell (p := ⟨b, off + i, Option.none⟩) hb]; exact e1, e2.below k⟩⟩⟩

section
variable {H : Type} {enc : TypeId × Value → H} {w : World} {base : Nat} {spare : Nat → Bool} {held : Bool}

theorem cellsP : Try.prog.cellsOf 42 = 2 := by kernel_rfl
set_option maxRecDepth 100000 in
theorem cell_in {fuel : Nat} {cs : List Value} {y : DataW H × List MemPlace} (h : DataW.trod enc Try.prog w base spare held fuel 42 cs = some y) :
    ∃ (z : Int) (c : Nat), cs = [.int .i64 z, .int .u8 (c : Int)] ∧ -9223372036854775808 ≤ z ∧ z ≤ 9223372036854775807 ∧ c < 256 := by
  obtain ⟨xs, n, _, hy, hlen, hxl, hf⟩ := DataW.trod_struct Try.underlying42 h
  have hlen2 : cs.length = 2 := hlen.trans cellsP
  match cs, hlen2 with
  | [c0, c1], _ =>
    match xs, hxl with
    | [y0, y1], _ =>
      have f0 : DataW.trod enc Try.prog w base spare held n 3 [c0] = some y0 := hf 0 _ rfl
      have f1 : DataW.trod enc Try.prog w base spare held n 5 [c1] = some y1 := hf 1 _ rfl
      obtain ⟨z, e0, r0, wz⟩ := DataW.trod_int Try.underlying3 f0
      obtain ⟨k, e1, r1, wk⟩ := DataW.trod_int Try.underlying5 f1
      simp only [List.cons.injEq, and_true] at e0 e1
      subst e0 e1
      have hz : -9223372036854775808 ≤ z ∧ z ≤ 9223372036854775807 := by simpa [Lit.wf, IntKind.min, IntKind.max, IntKind.signed, IntKind.bits] using wz
      have hk : 0 ≤ k ∧ k ≤ 255 := by simpa [Lit.wf, IntKind.min, IntKind.max, IntKind.signed, IntKind.bits] using wk
      obtain ⟨K, rfl⟩ : ∃ K : Nat, k = (K : Int) := ⟨k.toNat, by omega⟩
      exact ⟨z, K, rfl, hz.1, hz.2, by omega⟩

/-- Cells that came in. -/
theorem cells_in {fuel : Nat} {c : Value} {x : DataW H × List MemPlace} (h : DataW.trod enc Try.prog w base spare held fuel 39 [c] = some x) :
    ∃ a cap l, c = .slice a l.length cap ∧ Cr w a cap l := by
  rcases DataW.trod_slice Try.underlying39 h with ⟨hcs, hx⟩ | ⟨a, len, cap, elems, rest, n, _, hcs, hx, hb, hl, hm, hlen, hel, _, _⟩
  · simp only [List.cons.injEq, and_true] at hcs
    exact ⟨none, 0, [], hcs, ⟨fun x hx => (by cases hx), by simp, by unfold maxLen; omega, fun _ => ⟨rfl, rfl⟩, .inl rfl⟩⟩
  · simp only [List.cons.injEq, and_true] at hcs
    obtain ⟨f, hf⟩ := Go.Deep.choose_lt (α := Int × Nat) (p := fun i v => (-9223372036854775808 ≤ v.1 ∧ v.1 ≤ 9223372036854775807 ∧ v.2 < 256) ∧ w.cell? ((a.add (i * 2)).add 0) = some (.int .i64 v.1) ∧ w.cell? ((a.add (i * 2)).add 1) = some (.int .u8 ((v.2 : Nat) : Int))) (n := len) fun i hi => by
      have h1 := hel i hi
      rw [cellsP] at h1
      have hie : i < elems.length := by omega
      rw [List.getElem?_eq_getElem hie] at h1
      obtain ⟨cs, hcs1, hcs2⟩ := Option.bind_eq_some_iff.1 h1
      obtain ⟨z, c, rfl, h2, h3, h4⟩ := cell_in hcs2
      obtain ⟨_, _, hc⟩ := World.cells?_some hcs1
      exact ⟨(z, c), ⟨h2, h3, h4⟩, hc 0 (by omega), hc 1 (by omega)⟩
    have hll : ((List.range len).map f).length = len := by simp
    refine ⟨some a, cap, (List.range len).map f, by rw [hll]; exact hcs, ⟨fun x hx => ?_, by rw [hll]; exact hl, hm, fun e => (by cases e), ?_⟩⟩
    · obtain ⟨i, hi, rfl⟩ := List.mem_map.1 hx
      exact (hf i (List.mem_range.1 hi)).1
    · by_cases h0 : len = 0
      · exact .inl (List.length_eq_zero_iff.1 (by rw [hll]; exact h0))
      · obtain ⟨b, off, spot⟩ := a
        have hc0 := (hf 0 (by omega)).2.1
        have hc0' : w.cell? (⟨b, off, spot⟩ : Addr) = some (.int .i64 (f 0).1) := by simpa [Addr.add] using hc0
        have hspot : spot = none := World.cell?_spot hc0'
        subst hspot
        have hadd : ∀ r j, ((⟨b, off, none⟩ : Addr).add r).add j = ⟨b, off + r + j, none⟩ := fun r j => by
          by_cases r0 : r = 0 <;> by_cases j0 : j = 0
          · subst r0; subst j0; simp [Addr.add]
          · subst r0; simp [Addr.add, j0]
          · subst j0; simp [Addr.add, r0]
          · simp [Addr.add, r0, j0]
        refine .inr ⟨b, off, rfl, World.block_lt_of_cell? w _ hc0', fun i hi => ?_⟩
        have hi2 : i < len := by rw [hll] at hi; exact hi
        have hgi : ((List.range len).map f)[i] = f i := by simp
        rw [hgi]
        have hc := (hf i hi2).2
        simp only [hadd] at hc
        exact ⟨hc.1, hc.2⟩

/-- Equations that came in. -/
theorem eqs_at {t : TypeId} (ht : Try.prog.underlying t = some (.slice 39)) {fuel : Nat} {c : Value} {x : DataW H × List MemPlace} (h : DataW.trod enc Try.prog w base spare held fuel t [c] = some x) :
    ∃ a cap es, c = .slice a es.length cap ∧ Er w a cap es := by
  rcases Go.Deep.open_slice1 ht (by kernel_rfl) h with ⟨hcs, _⟩ | ⟨a, len, cap, m, n, V, D, Pl, hcs, hb, hl, hm, hmm, _, hx⟩
  · simp only [List.cons.injEq, and_true] at hcs
    exact ⟨none, 0, [], hcs, ⟨by simp, by unfold maxLen; omega, fun _ => ⟨rfl, rfl⟩, .inl rfl⟩⟩
  · simp only [List.cons.injEq, and_true] at hcs
    have hlm : len ≤ m := by rw [hmm]; split <;> omega
    obtain ⟨f, hf⟩ := Go.Deep.choose_lt (α := Cz) (p := fun i v => ∃ a' c', w.cell? (a.add i) = some (.slice a' v.length c') ∧ Cr w a' c' v) (n := len) fun i hi => by
      obtain ⟨h1, h2⟩ := hx i (by omega)
      obtain ⟨a', c', l, e, hr⟩ := cells_in h2
      exact ⟨l, a', c', by rw [h1, e], hr⟩
    have hll : ((List.range len).map f).length = len := by simp
    refine ⟨some a, cap, (List.range len).map f, by rw [hll]; exact hcs, ⟨by rw [hll]; exact hl, hm, fun e => (by cases e), ?_⟩⟩
    by_cases h0 : len = 0
    · exact .inl (List.length_eq_zero_iff.1 (by rw [hll]; exact h0))
    · obtain ⟨b, off, spot⟩ := a
      obtain ⟨a0, c0, hc0, _⟩ := hf 0 (by omega)
      have hc0' : w.cell? (⟨b, off, spot⟩ : Addr) = some (.slice a0 (f 0).length c0) := by simpa [Addr.add] using hc0
      have hspot : spot = none := World.cell?_spot hc0'
      subst hspot
      have hadd : ∀ r, (⟨b, off, none⟩ : Addr).add r = ⟨b, off + r, none⟩ := fun r => by
        by_cases r0 : r = 0
        · subst r0; simp [Addr.add]
        · simp [Addr.add, r0]
      refine .inr ⟨b, off, rfl, World.block_lt_of_cell? w _ hc0', fun i hi => ?_⟩
      have hi2 : i < len := by rw [hll] at hi; exact hi
      have hgi : ((List.range len).map f)[i] = f i := by simp
      rw [hgi]
      obtain ⟨a', c', e1, e2⟩ := hf i hi2
      rw [hadd] at e1
      exact ⟨a', c', e1, e2⟩
end

/-! Whether they are equations. -/

/-- The first k cells are of n unknowns, with numbers, and each place stands once. -/
def EqOk (n : Int) (l : Cz) : Prop := (∀ c ∈ l, 0 ≤ c.1 ∧ c.1 < n ∧ c.2 ≠ 0) ∧ (l.map Prod.fst).Nodup
instance (n : Int) (l : Cz) : Decidable (EqOk n l) := by unfold EqOk; infer_instance
theorem EqOk.nil (n : Int) : EqOk n [] := ⟨fun _ h => (by cases h), List.nodup_nil⟩
theorem eqOk_snoc {n : Int} {l : Cz} {c : Int × Nat} : EqOk n (l ++ [c]) ↔ EqOk n l ∧ (0 ≤ c.1 ∧ c.1 < n ∧ c.2 ≠ 0) ∧ ∀ d ∈ l, d.1 ≠ c.1 := by
  unfold EqOk
  rw [List.map_append, List.nodup_append]
  constructor
  · rintro ⟨h1, h2, _, h3⟩
    refine ⟨⟨fun d hd => h1 d (by simp [hd]), h2⟩, h1 c (by simp), fun d hd => ?_⟩
    exact h3 d.1 (List.mem_map_of_mem hd) c.1 (by simp)
  · rintro ⟨⟨h1, h2⟩, h3, h4⟩
    refine ⟨fun d hd => ?_, h2, by simp, fun x hx y hy => ?_⟩
    · rcases List.mem_append.1 hd with hd | hd
      · exact h1 d hd
      · obtain rfl : d = c := by simpa using hd
        exact h3
    · obtain ⟨d, hd, rfl⟩ := List.mem_map.1 hx
      obtain rfl : y = c.1 := by simpa using hy
      exact h4 d hd
theorem eqOk_next {n : Int} {l : Cz} {k : Nat} (h : k < l.length) : EqOk n (l.take (k + 1)) ↔ EqOk n (l.take k) ∧ (0 ≤ l[k].1 ∧ l[k].1 < n ∧ l[k].2 ≠ 0) ∧ ∀ j, (hj : j < k) → l[j].1 ≠ l[k].1 := by
  rw [List.take_succ_eq_append_getElem h, eqOk_snoc]
  refine and_congr_right fun _ => and_congr_right fun _ => ⟨fun h1 j hj => ?_, fun h1 d hd => ?_⟩
  · have hjt : j < (l.take k).length := by rw [List.length_take]; omega
    have := h1 (l.take k)[j] (List.getElem_mem hjt)
    rwa [List.getElem_take] at this
  · obtain ⟨j, hj, rfl⟩ := List.getElem_of_mem hd
    rw [List.getElem_take]
    exact h1 j (by rw [List.length_take] at hj; omega)
theorem EqOk.take {n : Int} {l : Cz} (h : EqOk n l) (k : Nat) : EqOk n (l.take k) :=
  ⟨fun c hc => h.1 c (List.mem_of_mem_take hc), by rw [List.map_take]; exact h.2.sublist (List.take_sublist _ _)⟩
/-- Equations of n unknowns. -/
def RightP (es : Eqz) (n : Int) : Prop := 0 ≤ n ∧ n ≤ 256 ∧ es.length ≤ 1000 ∧ ∀ l ∈ es, EqOk n l
instance (es : Eqz) (n : Int) : Decidable (RightP es n) := by unfold RightP; infer_instance
end Go.Proofs.Ytacncbojplmcjaa
end

section
namespace Go.Proofs.Ytacncbojplmcjaa
open Go.ChangeShapes Go.WideShapes Go.ChangeAt Go.RowKit Go.Joins
set_option linter.unusedVariables false

/-- Blocks that X does not name stay. -/
structure Fr (X : Nat → Prop) (w w' : World) : Prop where
  os : w'.os = w.os
  tape : w'.tape = w.tape
  output : w'.output = w.output
  size : w.heap.size ≤ w'.heap.size
  block : ∀ k, k < w.heap.size → ¬ X k → w'.heap[k]? = w.heap[k]?
theorem Fr.refl (X : Nat → Prop) (w : World) : Fr X w w := ⟨rfl, rfl, rfl, Nat.le_refl _, fun _ _ _ => rfl⟩
theorem Fr.trans {X : Nat → Prop} {a b c : World} (h : Fr X a b) (k : Fr X b c) : Fr X a c :=
  ⟨k.os.trans h.os, k.tape.trans h.tape, k.output.trans h.output, Nat.le_trans h.size k.size, fun i hi hx => (k.block i (Nat.lt_of_lt_of_le hi h.size) hx).trans (h.block i hi hx)⟩
theorem Fr.mono {X Y : Nat → Prop} {w w' : World} (h : Fr X w w') (hs : ∀ k, k < w.heap.size → X k → Y k) : Fr Y w w' := ⟨h.os, h.tape, h.output, h.size, fun k hk hy => h.block k hk fun hx => hy (hs k hk hx)⟩
theorem Fr.of_below {X : Nat → Prop} {w w' : World} (h : Below w.heap.size w w') : Fr X w w' := ⟨h.os, h.tape, h.output, h.size, fun k hk _ => h.block k hk⟩
theorem Fr.below {X : Nat → Prop} {B : Nat} {w w' : World} (h : Fr X w w') (hB : B ≤ w.heap.size) (hx : ∀ k, k < B → ¬ X k) : Below B w w' := ⟨h.os, h.tape, h.output, h.size, fun k hk => h.block k (by omega) (hx k hk)⟩
theorem Fr.set {X : Nat → Prop} {a w : World} (h : Fr X a w) {p : Addr} (hp : p.block < a.heap.size → X p.block) (u : Value) : Fr X a (w.setCell p u) :=
  ⟨h.os, h.tape, h.output, by simpa using h.size, fun k hk hx => by
    rw [Below.heap_setCell _ _ _ _ fun e => hx (by subst e; exact hp hk)]
    exact h.block k hk hx⟩
theorem Fr.setRow {X : Nat → Prop} {a w : World} (h : Fr X a w) {g : Nat} (hp : g < a.heap.size → X g) (cs : Array Value) : Fr X a (w.setRow g cs) :=
  ⟨h.os, h.tape, h.output, by simpa [World.setRow] using h.size, fun k hk hx => by
    rw [Go.setRow_other _ _ _ _ fun e => hx (by subst e; exact hp hk)]
    exact h.block k hk hx⟩
theorem Fr.later {X : Nat → Prop} {a w w' : World} (h : Fr X a w) (k : Below w.heap.size w w') : Fr X a w' := h.trans (Fr.of_below k)
theorem Fr.of_grown {X : Nat → Prop} {w w' : World} {row : Option Nat} (h : w.grownBy w' row) (hx : ∀ b, row = some b → X b) : Fr X w w' := ⟨h.os, h.tape, h.output, h.size, fun k hk hn => h.block k hk fun e => hn (hx k e.symm)⟩
end Go.Proofs.Ytacncbojplmcjaa
end

section
namespace Go.Proofs.Ytacncbojplmcjaa
open Go.ChangeShapes Go.WideShapes Go.ChangeAt Go.RowKit Go.Joins
set_option linter.unusedVariables false

theorem infoB : (Try.prog.info? 4).map (fun i => (i.zero, i.size, i.bytes)) = some (some (.bool false), 1, 1) := by kernel_rfl
def bV (f : Nat → Bool) (j : Nat) : Value := .bool (f j)
set_option maxRecDepth 100000 in
theorem make_bools (n : Nat) (hn : n ≤ 1000000) (w : World) : (Instr.makeSlice 75 (.int .i64 (n : Int)) (.int .i64 (n : Int))).run Try.prog w = .ok (.slice (some ⟨w.heap.size, 0, none⟩) n n) (w.alloc (.cells (rowArr n (bV fun _ => false)) 4)) := by
  have h := run_make_row' (P := Try.prog) 75 4 (.bool false) 1 Try.underlying75 infoB rfl .i64 .i64 n (by omega) (by omega) w
  rw [h]
  congr 3
  apply Array.ext
  · simp [madeCells, rowArr]
  · intro i h1 h2
    simp [madeCells, rowArr, bV, Nat.mod_one]

theorem Row.set_eq {w : World} {B : Nat} {ty : TypeId} {n : Nat} {g f : Nat → Value} (h : Row w B ty n n g) (k : Nat) (hk : k < n) (v : Value) (hf : ∀ j, j < n → f j = if j = k then v else g j) : Row (w.setCell ⟨B, k, none⟩ v) B ty n n f :=
  (h.upd k hk v).mono (Nat.le_refl _) fun j hj => (hf j hj).symm

/-- Which places the first k cells have. -/
def seenB (l : Cz) (k j : Nat) : Bool := (l.take k).any fun c => c.1 == (j : Int)
theorem seenB_start (l : Cz) (j : Nat) : seenB l 0 j = false := rfl
theorem seenB_next {l : Cz} {k : Nat} (h : k < l.length) (p j : Nat) (hp : l[k].1 = (p : Int)) : seenB l (k + 1) j = if j = p then true else seenB l k j := by
  unfold seenB
  rw [List.take_succ_eq_append_getElem h, List.any_append]
  by_cases e : j = p
  · subst e; simp [hp]
  · have : (l[k].1 == (j : Int)) = false := by rw [hp]; simp; omega
    rw [if_neg e]
    simp [this]
theorem seenB_iff {l : Cz} {k : Nat} (hk : k ≤ l.length) (p : Nat) : seenB l k p = false ↔ ∀ j, (hj : j < k) → l[j].1 ≠ (p : Int) := by
  unfold seenB
  rw [List.any_eq_false]
  constructor
  · intro h j hj
    have hjt : j < (l.take k).length := by rw [List.length_take]; omega
    have := h _ (List.getElem_mem hjt)
    rw [List.getElem_take] at this
    simpa using this
  · intro h c hc
    obtain ⟨j, hj, rfl⟩ := List.getElem_of_mem hc
    rw [List.getElem_take]
    have := h j (by rw [List.length_take] at hj; omega)
    simpa using this

theorem eqOk_not {n : Int} {l : Cz} {k : Nat} (h : k < l.length) (hn : ¬ ((0 ≤ l[k].1 ∧ l[k].1 < n ∧ l[k].2 ≠ 0) ∧ ∀ j, (hj : j < k) → l[j].1 ≠ l[k].1)) : decide (EqOk n l) = false := by
  rw [decide_eq_false_iff_not]
  intro h1
  exact hn ((eqOk_next h).1 (h1.take (k + 1))).2

structure SeenAt (w wr : World) (g n : Nat) (l : Cz) (k : Nat) : Prop where
  row : Row wr g 4 n n (bV (seenB l k))
  low : Below w.heap.size w wr

set_option maxRecDepth 100000 in
set_option maxHeartbeats 2000000 in
theorem right1_any (a : Option Addr) (cap : Nat) (l : Cz) (n : Nat) (hn : n ≤ 256) (w : World) (hs : Cr w a cap l) :
    Calls Try.prog 39 #[.slice a l.length cap, .int .i64 (n : Int)] w fun e w' => e = .returned (.bool (decide (EqOk n l))) ∧ Below w.heap.size w w' := by
  have HS := Lib.hid hs
  have hlm := hs.lt
  have hmk := make_bools n (by omega) w
  have HA0 : Hid (SeenAt w (w.alloc (.cells (rowArr n (bV fun _ => false)) 4)) w.heap.size n l 0) := ⟨Row.new_whole w _ 4 (bV (seenB l 0)) _ _ rfl rfl, (Below.refl _ _).alloc (Nat.le_refl _) _⟩
  have HO0 : Hid (EqOk n (l.take 0)) := EqOk.nil _
  clear hs
  go_enter Try.func39, Try.ntmps39
  go_wp2_with fail
  obtain ⟨g, hg⟩ : ∃ g, g = w.heap.size := ⟨_, rfl⟩
  have hgw : w.heap.size ≤ g := by omega
  rw [← hg] at HA0 ⊢
  generalize w.alloc (.cells (rowArr n (bV fun _ => false)) 4) = w0 at *
  clear hg hmk
  go_loopw [12] (fun i wr => ∃ k : Nat, k ≤ l.length ∧ i = .int .i64 k ∧ Hid (EqOk n (l.take k)) ∧ Hid (SeenAt w wr g n l k)) (fun i _ => l.length - (intOf i).toNat)
  case atStart => exact ⟨0, by omega, rfl, HO0, HA0⟩
  case round =>
    obtain ⟨k, hk, rfl, HO, HA⟩ := hrel
    clear HA0 HO0
    by_cases hlt : k < l.length
    · obtain ⟨b, off, rfl, hb, hc⟩ := (HS.out.below HA.out.low).some hlt
      obtain ⟨c0, c1⟩ := hc k hlt
      obtain ⟨r1, r2, r3⟩ := HS.out.rng _ (List.getElem_mem hlt)
      have HN := Lib.hid (fun h => eqOk_not (n := n) (l := l) hlt h)
      have HX := Lib.hid (eqOk_next (n := n) hlt)
      have HT := Lib.hid (seenB_next hlt)
      have HI := Lib.hid (seenB_iff (l := l) (k := k) hk)
      obtain ⟨⟨z, y⟩, hzy⟩ : ∃ x, x = l[k] := ⟨_, rfl⟩
      rw [← hzy] at c0 c1 r1 r2 r3 HN HX HT
      simp only at c0 c1 r1 r2 r3 HN HX HT
      have b0 : b < wr.heap.size := World.block_lt_of_cell? wr _ c0
      clear hc hzy
      by_cases z0 : z < 0
      · have HF : Hid (decide (EqOk (n : Int) l) = false) := HN.out fun h => by omega
        have d1 : decide (z < 0) = true := by simp; omega
        have d2 : (!decide (z < 0)) = false := by rw [d1]; rfl
        go_wp2_with fail
        go_ret
        exact ⟨ret_bool HF.out.symm, HA.out.low.alloc HA.out.low.size _⟩
      · have d2 : decide (z < 0) = false := by simp; omega
        by_cases zn : (n : Int) ≤ z
        · have HF : Hid (decide (EqOk (n : Int) l) = false) := HN.out fun h => by omega
          have e1 : decide ((n : Int) ≤ z) = true := by simp; omega
          go_wp2_with fail
          go_ret
          exact ⟨ret_bool HF.out.symm, HA.out.low.alloc HA.out.low.size _⟩
        · have e1 : decide ((n : Int) ≤ z) = false := by simp; omega
          by_cases y0 : y = 0
          · subst y0
            have HF : Hid (decide (EqOk (n : Int) l) = false) := HN.out fun h => by omega
            go_wp2_with fail
            go_ret
            exact ⟨ret_bool HF.out.symm, HA.out.low.alloc HA.out.low.size _⟩
          · have f1 : ((y : Int) == 0) = false := by simp; omega
            obtain ⟨p, rfl⟩ : ∃ p : Nat, z = (p : Int) := ⟨z.toNat, by omega⟩
            have hpn : p < n := by omega
            have c2 := HA.out.row.cell p hpn
            have f2 := HA.out.row.loose p
            have g2 := HA.out.row.lt
            unfold bV at c2
            by_cases hsn : seenB l k p = true
            · have HF : Hid (decide (EqOk (n : Int) l) = false) := HN.out fun h => by
                have := (HI.out p).2 h.2
                rw [hsn] at this
                cases this
              rw [hsn] at c2
              go_wp2_with fail
              go_ret
              exact ⟨ret_bool HF.out.symm, HA.out.low.alloc HA.out.low.size _⟩
            · have hsn2 : seenB l k p = false := by simpa using hsn
              have HO2 : Hid (EqOk (n : Int) (l.take (k + 1))) := HX.out.2 ⟨HO.out, ⟨by omega, by omega, by omega⟩, (HI.out p).1 hsn2⟩
              have HT2 := Lib.hid (fun j => HT.out p j rfl)
              rw [hsn2] at c2
              clear HO HX HI HN HT
              go_wp2_with fail
              go_roundw
              case rel => exact ⟨k + 1, by omega, by go_num, HO2, ⟨(HA.out.row.set_eq (f := bV (seenB l (k + 1))) p hpn (.bool true) fun j hj => by unfold bV; rw [HT2.out j]; split <;> rfl).alloc _, (HA.out.low.setCell (p := ⟨g, p, none⟩) hgw (.bool true)).alloc (by have := HA.out.low.size; simpa using this) _⟩⟩
              case measure => simp [intOf]; omega
    · obtain rfl : k = l.length := by omega
      have HF : Hid (decide (EqOk (n : Int) l) = true) := by
        show _ = _
        rw [decide_eq_true_iff]
        have := HO.out
        rwa [List.take_length] at this
      go_wp2_with fail
      go_ret
      exact ⟨ret_bool HF.out.symm, HA.out.low⟩
end Go.Proofs.Ytacncbojplmcjaa
end
