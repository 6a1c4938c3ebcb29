/-
  A slice of uint32s that came in.
  Lists of bytes in memory: one that came in, one that a call fills.
  Range of volume, as a contract; the law's awake.
  Range of volume, walked.
  Bytes that came in, and how many there can be.
  A frame: blocks that X doesn't name stay.
  Items (law 13) that came in.
  Numbers as bytes (layer 13): what the document says, told.
  What package codec answers, told.
-/
import Derived.Test.YtcopjbapglndgaaGreatDoorRows
import Derived.WalkKit
import Derived.ProofKit
import Derived.OpenShut
import Derived.Below
import Derived.ChangeSlices
import Derived.LaidMore
import Derived.Stop.Joined
import Derived.SizedLaws
import Derived.ChangeOld
import Derived.Lib.Hide
import Derived.Lib.SmallJoins
import Derived.WalkSpells
import Derived.WalkLawsBesides
import Derived.Outline
import Derived.Deep.QuietTactic
import Derived.BigQuiet
import Derived.Laws.BitsAllLaws
import Derived.Deep.WholeRow
import Derived.Deep.OwnRows
import Derived.Laws.BytesArg
import Derived.Deep.CutBlock
import Derived.Deep.DeepCutAuto
import Derived.Laws.AppendOwn
import Derived.Deep.Slices
section
namespace Go.Proofs.YtcopjbapglndgaaGreatDoor
open Go.ChangeShapes Go.WideShapes Go.ChangeAt Go.RowKit Go.Joins
set_option linter.unusedVariables false

/-- A slice of uint32s that reads as ks. -/
structure Us (w : World) (a : Option Addr) (cap : Nat) (ks : List Nat) : Prop where
  rng : ∀ x ∈ ks, x < 4294967296
  len : ks.length ≤ cap
  most : cap ≤ maxLen
  none : a = none → ks = [] ∧ cap = 0
  here : ks = [] ∨ ∃ b off, a = some ⟨b, off, Option.none⟩ ∧ b < w.heap.size ∧ ∀ i (h : i < ks.length), w.cell? ⟨b, off + i, Option.none⟩ = some (.int .u32 ((ks[i] : Nat) : Int))
theorem Us.lt {w : World} {a : Option Addr} {cap : Nat} {ks : List Nat} (h : Us w a cap ks) : ks.length ≤ 9223372036854775807 := by
  have h1 := h.len; have h2 := h.most; unfold maxLen at h2; omega
theorem Us.some {w : World} {a : Option Addr} {cap : Nat} {ks : List Nat} (h : Us w a cap ks) {k : Nat} (hk : k < ks.length) :
    ∃ b off, a = some ⟨b, off, Option.none⟩ ∧ b < w.heap.size ∧ w.cell? ⟨b, off + k, Option.none⟩ = some (.int .u32 ((ks[k] : Nat) : Int)) := by
  rcases h.here with rfl | ⟨b, off, e, hb, hc⟩
  · simp at hk
  · exact ⟨b, off, e, hb, hc k hk⟩
theorem Us.below {w w' : World} {a : Option Addr} {cap : Nat} {ks : List Nat} (h : Us w a cap ks) (k : Below w.heap.size w w') : Us w' a cap ks :=
  ⟨h.rng, h.len, h.most, h.none, by
    rcases h.here with e | ⟨b, off, e, hb, hc⟩
    · exact .inl e
    · exact .inr ⟨b, off, e, Nat.lt_of_lt_of_le hb k.size, fun i hi => by rw [k.cell (p := ⟨b, off + i, Option.none⟩) hb]; exact hc i hi⟩⟩

theorem cellsU : Tryz.prog.cellsOf 44 = 1 := by kernel_rfl

/-- A list of uint32s that came in. -/
theorem ids_in {H : Type} {enc : TypeId × Value → H} {w : World} {base fuel : Nat} {spare : Nat → Bool} {held : Bool} {c : Value} {x : DataW H × List MemPlace}
    (h : DataW.trod enc Tryz.prog w base spare held fuel 23 [c] = some x) :
    ∃ (a : Option Addr) (cap : Nat) (l : List Nat), c = .slice a l.length cap ∧ Us w a cap l := by
  rcases open_ints Tryz.underlying23 Tryz.underlying44 cellsU h with ⟨hcs, hx⟩ | ⟨a, len, cap, zs, hcs, _, hl, hm, hz, hx, hcell, hwz⟩
  · simp only [List.cons.injEq, and_true] at hcs
    exact ⟨none, 0, [], hcs, ⟨by simp, by simp, by unfold maxLen; omega, fun _ => ⟨rfl, rfl⟩, .inl rfl⟩⟩
  · simp only [List.cons.injEq, and_true] at hcs
    have hlz : len ≤ zs.length := by rw [hz]; split <;> omega
    have hll : ((zs.take len).map Int.toNat).length = len := by simp; omega
    refine ⟨some a, cap, (zs.take len).map Int.toNat, by rw [hll]; exact hcs, fun n hn => ?_, by omega, hm, fun e => (by cases e), ?_⟩
    · obtain ⟨z, hz1, rfl⟩ := List.mem_map.1 hn
      have := hwz z (List.mem_of_mem_take hz1)
      have hb : 0 ≤ z ∧ z ≤ 4294967295 := by simpa [Lit.wf, IntKind.min, IntKind.max, IntKind.signed, IntKind.bits] using this
      omega
    · by_cases h0 : len = 0
      · exact .inl (List.length_eq_zero_iff.1 (by omega))
      · obtain ⟨b, off, spot⟩ := a
        have hc0 := hcell 0 (by omega)
        have hspot : spot = none := by simpa [Addr.add] using World.cell?_spot hc0
        subst hspot
        have hbl : b < w.heap.size := by
          exact World.block_lt_of_cell? w _ hc0
        refine .inr ⟨b, off, rfl, hbl, fun i hi => ?_⟩
        have hi2 : i < len := by omega
        have hci := hcell i (by omega)
        have hwi := hwz zs[i] (List.getElem_mem (by omega))
        have hb : 0 ≤ zs[i] ∧ zs[i] ≤ 4294967295 := by simpa [Lit.wf, IntKind.min, IntKind.max, IntKind.signed, IntKind.bits] using hwi
        have e : zs.getD i 0 = zs[i] := by simp [List.getD, show i < zs.length by omega]
        rw [e] at hci
        have e2 : ((((zs.take len).map Int.toNat)[i] : Nat) : Int) = zs[i] := by simp; omega
        rw [e2, ← hci]
        by_cases hi0 : i = 0
        · subst hi0; simp [Addr.add]
        · simp [Addr.add, hi0]
end Go.Proofs.YtcopjbapglndgaaGreatDoor
end

section
namespace Go.Proofs.YtcopjbapglndgaaGreatDoor
open Go.ChangeShapes Go.WideShapes Go.ChangeAt Go.RowKit Go.Joins
set_option linter.unusedVariables false

/-- What a law's call ends with. -/
def TrueAnd (w : World) (e : Ending) (w' : World) : Prop := e = .returned (.bool true) ∧ Below w.heap.size w w'
theorem ret_bool {a b : Bool} (h : a = b) : Ending.returned (.bool a) = .returned (.bool b) := by rw [h]

def IsByte (l : List Nat) : Prop := ∀ n ∈ l, n < 256
/-- Cells from a place on hold these bytes. -/
def BytesIn (w : World) (b off : Nat) (l : List Nat) : Prop := ∀ i (h : i < l.length), w.cell? ⟨b, off + i, none⟩ = some (.int .u8 ((l[i] : Nat) : Int))
/-- A slice of bytes: nothing to read, or cells from a place on. -/
def BytesAt (w : World) (a : Option Addr) (l : List Nat) : Prop := l = [] ∨ ∃ b off, a = some ⟨b, off, none⟩ ∧ BytesIn w b off l

theorem BytesIn.below {w w' : World} {B b off : Nat} {l : List Nat} (h : BytesIn w b off l) (hB : w.heap.size ≤ B) (hb : Below B w w') : BytesIn w' b off l := fun i hi => by
  rw [hb.cell (p := ⟨b, off + i, none⟩) (Nat.lt_of_lt_of_le (World.block_lt_of_cell? w _ (h i hi)) hB)]; exact h i hi

theorem BytesAt.below {w w' : World} {B : Nat} {a : Option Addr} {l : List Nat} (h : BytesAt w a l) (hB : w.heap.size ≤ B) (hb : Below B w w') : BytesAt w' a l := by
  rcases h with h | ⟨b, off, e, h⟩
  · exact .inl h
  · exact .inr ⟨b, off, e, h.below hB hb⟩

/-- The slice '.slice a l.length cap' reads as l. -/
structure Sl (w : World) (a : Option Addr) (cap : Nat) (l : List Nat) : Prop where
  byte : IsByte l
  len : l.length ≤ cap
  most : cap ≤ maxLen
  none : a = none → l = [] ∧ cap = 0
  here : BytesAt w a l

theorem Sl.below {w w' : World} {a : Option Addr} {cap : Nat} {l : List Nat} (h : Sl w a cap l) (hb : Below w.heap.size w w') : Sl w' a cap l :=
  ⟨h.byte, h.len, h.most, h.none, h.here.below (Nat.le_refl _) hb⟩
theorem Sl.drewN {w : World} {a : Option Addr} {cap : Nat} {l : List Nat} (h : Sl w a cap l) (n : Nat) : Sl (w.drewN n) a cap l := ⟨h.byte, h.len, h.most, h.none, h.here⟩
theorem Sl.drew {w : World} {a : Option Addr} {cap : Nat} {l : List Nat} (h : Sl w a cap l) : Sl w.drew a cap l := ⟨h.byte, h.len, h.most, h.none, h.here⟩
theorem Sl.lt {w : World} {a : Option Addr} {cap : Nat} {l : List Nat} (h : Sl w a cap l) : l.length ≤ 9223372036854775807 := by
  have h1 := h.len
  have h2 := h.most
  unfold maxLen at h2
  omega
theorem Sl.some {w : World} {a : Option Addr} {cap : Nat} {l : List Nat} (h : Sl w a cap l) {k : Nat} (hk : k < l.length) : ∃ b off, a = some ⟨b, off, Option.none⟩ ∧ BytesIn w b off l := by
  rcases h.here with rfl | h
  · simp at hk
  · exact h
theorem nil_sl (w : World) : Sl w Option.none 0 [] := ⟨by simp [IsByte], by simp, by simp, fun _ => ⟨rfl, rfl⟩, .inl rfl⟩

/-- Block B is a row of n cells; the first k are as g says. -/
def Row (w : World) (B : Nat) (ty : TypeId) (n k : Nat) (g : Nat → Value) : Prop :=
  ∃ cs, w.heap[B]? = some (.cells cs ty (0, 0)) ∧ cs.size = n ∧ ∀ j, j < k → cs[j]? = some (g j)

theorem Row.cell {w : World} {B : Nat} {ty : TypeId} {n k : Nat} {g : Nat → Value} (h : Row w B ty n k g) (j : Nat) (hj : j < k) : w.cell? ⟨B, j, none⟩ = some (g j) := by
  obtain ⟨cs, h1, _, h3⟩ := h
  rw [cell_of_block h1]; exact h3 j hj

theorem Row.has {w : World} {B : Nat} {ty : TypeId} {n k : Nat} {g : Nat → Value} (h : Row w B ty n k g) (j : Nat) (hj : j < n) : ∃ v, w.cell? ⟨B, j, none⟩ = some v := by
  obtain ⟨cs, h1, h2, _⟩ := h
  exact ⟨cs[j], by rw [cell_of_block h1]; simp [h2, hj]⟩

theorem Row.loose {w : World} {B : Nat} {ty : TypeId} {n k : Nat} {g : Nat → Value} (h : Row w B ty n k g) (j : Nat) : w.frozen? ⟨B, j, none⟩ = false := by
  obtain ⟨cs, h1, _, _⟩ := h
  exact unfrozen_of_block h1 j

theorem Row.lt {w : World} {B : Nat} {ty : TypeId} {n k : Nat} {g : Nat → Value} (h : Row w B ty n k g) : B < w.heap.size := by
  obtain ⟨cs, h1, _, _⟩ := h
  exact (Array.getElem?_eq_some_iff.1 h1).1

theorem Row.set {w : World} {B : Nat} {ty : TypeId} {n k : Nat} {g : Nat → Value} (h : Row w B ty n k g) (hk : k < n) {v : Value} (hv : v = g k) : Row (w.setCell ⟨B, k, none⟩ v) B ty n (k + 1) g := by
  obtain ⟨cs, h1, h2, h3⟩ := h
  refine ⟨cs.setIfInBounds k v, block_setCell h1 v, by simp [h2], fun j hj => ?_⟩
  by_cases e : j = k
  · subst e; simp [h2, hk, hv]
  · rw [Array.getElem?_setIfInBounds_ne (by omega)]; exact h3 j (by omega)

/-- A cell of a row is written. -/
theorem Row.upd {w : World} {B : Nat} {ty : TypeId} {n m : Nat} {g : Nat → Value} (h : Row w B ty n m g) (k : Nat) (hk : k < n) (v : Value) : Row (w.setCell ⟨B, k, none⟩ v) B ty n m (fun j => if j = k then v else g j) := by
  obtain ⟨cs, h1, h2, h3⟩ := h
  refine ⟨cs.setIfInBounds k v, Joins.block_setCell h1 v, by simp [h2], fun j hj => ?_⟩
  by_cases e : j = k
  · subst e; simp [h2, hk]
  · rw [Array.getElem?_setIfInBounds_ne (by omega)]; simp only [e, if_false]; exact h3 j hj

/-- Another block is written. -/
theorem Row.other {w : World} {B C : Nat} {ty : TypeId} {n k i : Nat} {g : Nat → Value} {v : Value} (h : Row w B ty n k g) (hne : B ≠ C) : Row (w.setCell ⟨C, i, none⟩ v) B ty n k g := by
  obtain ⟨cs, h1, h2, h3⟩ := h
  exact ⟨cs, by rw [Below.heap_setCell _ _ _ _ hne]; exact h1, h2, h3⟩

theorem Row.below {w w' : World} {B C : Nat} {ty : TypeId} {n k : Nat} {g : Nat → Value} (h : Row w B ty n k g) (hb : Below C w w') (hC : B < C) : Row w' B ty n k g := by
  obtain ⟨cs, h1, h2, h3⟩ := h
  exact ⟨cs, by rw [hb.block _ hC]; exact h1, h2, h3⟩

theorem Row.drew {w : World} {B : Nat} {ty : TypeId} {n k : Nat} {g : Nat → Value} (h : Row w B ty n k g) (q : Nat) : Row (w.drewN q) B ty n k g := h

theorem Row.mono {w : World} {B : Nat} {ty : TypeId} {n k m : Nat} {g f : Nat → Value} (h : Row w B ty n k g) (hm : m ≤ k) (hf : ∀ j, j < m → g j = f j) : Row w B ty n m f := by
  obtain ⟨cs, h1, h2, h3⟩ := h
  exact ⟨cs, h1, h2, fun j hj => by rw [h3 j (by omega), hf j hj]⟩

/-- What a whole row holds. -/
def rowArr (n : Nat) (g : Nat → Value) : Array Value := ((List.range n).map g).toArray

theorem rowArr_size (n : Nat) (g : Nat → Value) : (rowArr n g).size = n := by simp [rowArr]

theorem Row.whole {w : World} {B : Nat} {ty : TypeId} {n : Nat} {g : Nat → Value} (h : Row w B ty n n g) : w.heap[B]? = some (.cells (rowArr n g) ty (0, 0)) := by
  obtain ⟨cs, h1, h2, h3⟩ := h
  have : cs = rowArr n g := by
    apply Array.ext_getElem?
    intro i
    by_cases hi : i < n
    · rw [h3 i hi]; simp [rowArr, hi]
    · simp [rowArr, h2, hi]
  rw [← this]; exact h1

theorem Row.of_whole {w : World} {B : Nat} {ty : TypeId} {n : Nat} {g : Nat → Value} (h : w.heap[B]? = some (.cells (rowArr n g) ty (0, 0))) : Row w B ty n n g :=
  ⟨_, h, rowArr_size n g, fun j hj => by simp [rowArr, hj]⟩

/-- A new block, nothing known of it but its length. -/
theorem Row.new (w : World) (cs : Array Value) (ty : TypeId) (g : Nat → Value) : Row (w.alloc (.cells cs ty)) w.heap.size ty cs.size 0 g :=
  ⟨cs, heap_alloc_last w _, rfl, fun j hj => by omega⟩

theorem Row.new' (w : World) (cs : Array Value) (ty : TypeId) (g : Nat → Value) (B n : Nat) (hB : B = w.heap.size) (hn : cs.size = n) : Row (w.alloc (.cells cs ty)) B ty n 0 g := by
  subst hB hn; exact Row.new w cs ty g

theorem Row.new_whole (w : World) (cs : Array Value) (ty : TypeId) (g : Nat → Value) (B n : Nat) (hB : B = w.heap.size) (hn : cs = rowArr n g) : Row (w.alloc (.cells cs ty)) B ty n n g := by
  subst hB hn; exact Row.of_whole (heap_alloc_last w _)

theorem Row.alloc {w : World} {B : Nat} {ty : TypeId} {n k : Nat} {g : Nat → Value} (h : Row w B ty n k g) (o : Obj) : Row (w.alloc o) B ty n k g := by
  have hlt := h.lt
  obtain ⟨cs, h1, h2, h3⟩ := h
  exact ⟨cs, by rw [Below.heap_alloc _ _ _ hlt]; exact h1, h2, h3⟩

/-- A whole row is written, in a block of the call's own. -/
theorem below_setRow {B g : Nat} {a w : World} (h : Below B a w) (hg : B ≤ g) (cs : Array Value) : Below B a (w.setRow g cs) :=
  h.trans ⟨setRow_os _ _ _, setRow_tape _ _ _, setRow_output _ _ _, by simp [World.setRow], fun k hk => setRow_other _ _ _ _ (by omega)⟩

theorem Row.whole_set {w : World} {B : Nat} {ty : TypeId} {n k : Nat} {g f : Nat → Value} (h : Row w B ty n k g) : Row (w.setRow B (rowArr n f)) B ty n n f := by
  obtain ⟨cs, h1, _, _⟩ := h
  exact Row.of_whole (setRow_heap _ _ _ _ _ _ h1)

theorem Row.setRow_other {w : World} {B C : Nat} {ty : TypeId} {n k : Nat} {g : Nat → Value} (h : Row w B ty n k g) (hne : B ≠ C) (cs : Array Value) : Row (w.setRow C cs) B ty n k g := by
  obtain ⟨cs', h1, h2, h3⟩ := h
  exact ⟨cs', by rw [Go.setRow_other _ _ _ _ hne]; exact h1, h2, h3⟩


/-! Rows of bytes. -/

def byteV (c : Nat) : Value := .int .u8 (c : Int)
def vOf (l : List Nat) (j : Nat) : Value := byteV (l.getD j 0)
def zV (_ : Nat) : Value := .int .u8 0

theorem vOf_eq (l : List Nat) (j : Nat) (h : j < l.length) : vOf l j = .int .u8 ((l[j] : Nat) : Int) := by
  simp [vOf, byteV, List.getD, h]

theorem Row.sl {w : World} {B n : Nat} {l : List Nat} (h : Row w B 5 n n (vOf l)) (hn : l.length = n) (hb : IsByte l) (hm : n ≤ maxLen) : Sl w (some ⟨B, 0, none⟩) n l :=
  ⟨hb, by omega, hm, fun e => (by cases e), .inr ⟨B, 0, rfl, fun i hi => by rw [Nat.zero_add, h.cell i (by omega), vOf_eq l i hi]⟩⟩

theorem info8 : (Tryz.prog.info? 5).map (fun i => (i.zero, i.size, i.bytes)) = some (some (.int .u8 0), 1, 1) := by kernel_rfl

set_option maxRecDepth 100000 in
theorem make_row (n : Nat) (hn : n ≤ 1000000) (w : World) : (Instr.makeSlice 35 (.int .i64 (n : Int)) (.int .i64 (n : Int))).run Tryz.prog w = .ok (.slice (some ⟨w.heap.size, 0, none⟩) n n) (w.alloc (.cells (rowArr n zV) 5)) := by
  have h := run_make_row' (P := Tryz.prog) 35 5 (.int .u8 0) 1 Tryz.underlying35 info8 rfl .i64 .i64 n (by omega) (by omega) w
  rw [h]
  congr 3
  apply Array.ext
  · simp [madeCells, rowArr]
  · intro i h1 h2
    simp [madeCells, rowArr, zV, Nat.mod_one]

/-- Behind W a row of its own, the first k bytes of m in it. -/
structure NewTo (W w : World) (m : List Nat) (k : Nat) : Prop where
  below : Below W.heap.size W w
  row : Row w W.heap.size 5 m.length k (vOf m)

theorem new_start (w : World) (m : List Nat) (n : Nat) (hn : m.length = n) : NewTo w (w.alloc (.cells (rowArr n zV) 5)) m 0 := by
  subst hn
  exact ⟨(Below.refl _ _).alloc (Nat.le_refl _) _, (Row.new_whole w _ _ zV _ _ rfl rfl).mono (Nat.zero_le _) (fun j hj => by omega)⟩
theorem NewTo.drewN {W w : World} {m : List Nat} {k : Nat} (h : NewTo W w m k) (n : Nat) : NewTo W (w.drewN n) m k := ⟨⟨h.below.os, h.below.tape, h.below.output, h.below.size, h.below.block⟩, h.row⟩
theorem NewTo.drew {W w : World} {m : List Nat} {k : Nat} (h : NewTo W w m k) : NewTo W w.drew m k := ⟨h.below.drew, h.row⟩
theorem NewTo.set {W w : World} {m : List Nat} {k : Nat} (h : NewTo W w m k) (hk : k < m.length) {u : Value} (hu : u = .int .u8 ((m[k] : Nat) : Int)) : NewTo W (w.setCell ⟨W.heap.size, k, none⟩ u) m (k + 1) :=
  ⟨h.below.setCell (Nat.le_refl _) _, h.row.set hk (by rw [hu, vOf_eq m k hk])⟩
theorem NewTo.sl {W w : World} {m : List Nat} (h : NewTo W w m m.length) (hb : IsByte m) (hm : m.length ≤ 1000000) : Sl w (some ⟨W.heap.size, 0, none⟩) m.length m :=
  h.row.sl rfl hb (by unfold maxLen; omega)

/-! Strings of bytes. -/

def strOf (l : List Nat) : ByteArray := strOfNums (l.map fun n : Nat => (n : Int))

theorem conv_sl (w : World) (a : Option Addr) (cap : Nat) (l : List Nat) (h : Sl w a cap l) : (convert 35 9 (.slice a l.length cap)).run Tryz.prog w = .ok (.string (strOf l)) w := by
  rcases a with _ | a
  · obtain ⟨rfl, rfl⟩ := h.none rfl
    exact run_convert_bytes_nil w 35 5 Tryz.underlying35 Tryz.underlying5 _ _ 9 Tryz.underlying9
  · rcases h.here with rfl | ⟨b, off, e, hb⟩
    · have := run_bytesToString (P := Tryz.prog) w a 0 cap [] rfl
      rw [run_convert_bytes_string w 35 9 5 _ _ _ Tryz.underlying35 Tryz.underlying5 Tryz.underlying9]
      exact this
    · cases e
      refine run_convert_bytes_arg w 35 5 Tryz.underlying35 Tryz.underlying5 b off l.length cap _ (by simp) (fun i hi => ?_) 9 Tryz.underlying9
      rw [hb i hi]
      simp [List.getD, hi]

/-! A parameter. -/

theorem cells8 : Tryz.prog.cellsOf 5 = 1 := by kernel_rfl

/-- A list of bytes that came in. -/
theorem bytes_in {H : Type} {enc : TypeId × Value → H} {w : World} {base fuel : Nat} {spare : Nat → Bool} {held : Bool} {c : Value} {x : DataW H × List MemPlace}
    (h : DataW.trod enc Tryz.prog w base spare held fuel 35 [c] = some x) :
    ∃ (a : Option Addr) (cap : Nat) (l : List Nat), c = .slice a l.length cap ∧ Sl w a cap l := by
  rcases open_ints Tryz.underlying35 Tryz.underlying5 cells8 h with ⟨hcs, hx⟩ | ⟨a, len, cap, zs, hcs, _, hl, hm, hz, hx, hcell, hwz⟩
  · simp only [List.cons.injEq, and_true] at hcs
    exact ⟨none, 0, [], hcs, nil_sl w⟩
  · simp only [List.cons.injEq, and_true] at hcs
    have hlz : len ≤ zs.length := by rw [hz]; split <;> omega
    have hll : ((zs.take len).map Int.toNat).length = len := by simp; omega
    refine ⟨some a, cap, (zs.take len).map Int.toNat, by rw [hll]; exact hcs, fun n hn => ?_, by omega, hm, fun e => (by cases e), ?_⟩
    · obtain ⟨z, hz1, rfl⟩ := List.mem_map.1 hn
      have := hwz z (List.mem_of_mem_take hz1)
      have hb : 0 ≤ z ∧ z ≤ 255 := by simpa [Lit.wf, IntKind.min, IntKind.max, IntKind.signed, IntKind.bits] using this
      omega
    · by_cases h0 : len = 0
      · exact .inl (List.length_eq_zero_iff.1 (by omega))
      · obtain ⟨b, off, spot⟩ := a
        have hc0 := hcell 0 (by omega)
        have hspot : spot = none := by simpa [Addr.add] using World.cell?_spot hc0
        subst hspot
        refine .inr ⟨b, off, rfl, fun i hi => ?_⟩
        have hi2 : i < len := by omega
        have hci := hcell i (by omega)
        have hwi := hwz zs[i] (List.getElem_mem (by omega))
        have hb : 0 ≤ zs[i] ∧ zs[i] ≤ 255 := by simpa [Lit.wf, IntKind.min, IntKind.max, IntKind.signed, IntKind.bits] using hwi
        have e : zs.getD i 0 = zs[i] := by simp [List.getD, show i < zs.length by omega]
        rw [e] at hci
        have e2 : ((((zs.take len).map Int.toNat)[i] : Nat) : Int) = zs[i] := by simp; omega
        rw [e2, ← hci]
        by_cases hi0 : i = 0
        · subst hi0; simp [Addr.add]
        · simp [Addr.add, hi0]
end Go.Proofs.YtcopjbapglndgaaGreatDoor
end

section
namespace Go.Proofs.YtcopjbapglndgaaGreatDoor
open Go.ChangeShapes Go.WideShapes Go.ChangeAt Go.RowKit Go.Joins
set_option linter.unusedVariables false

/-- What Range tells. -/
def VRangePost (f : Nat) (c : Int) (w : World) (e : Ending) (w' : World) : Prop := Below w.heap.size w w' ∧
  (((c < 1 ∨ 4294967295 < c ∨ 4294967296 < (f : Int) + c) ∧ e = .returned (.tuple #[.slice none 0 0, .int .i64 1])) ∨
   (1 ≤ c ∧ c ≤ 4294967295 ∧ (f : Int) + c ≤ 4294967296 ∧ 64 < c ∧ e = .returned (.tuple #[.slice none 0 0, .int .i64 5])) ∨
   (∃ n : Nat, c = n ∧ 1 ≤ n ∧ f + n ≤ 4294967296 ∧ n ≤ 64 ∧ ∃ a k, e = .returned (.tuple #[.slice a n k, .int .i64 0]) ∧ Us w' a k ((List.range n).map (f + ·))))
def VRangeC : Prop := ∀ (f : Nat) (c : Int) (w : World), f < 4294967296 → -9223372036854775808 ≤ c ∧ c ≤ 9223372036854775807 → Calls Tryz.prog 18 #[.int .u32 (f : Int), .int .i64 c] w (VRangePost f c w)
set_option maxRecDepth 1000000 in
theorem awake17_any (hR : VRangeC) (w : World) : Calls Tryz.prog 6 #[] w (TrueAnd w) := by
  have HR : Hid (Calls Tryz.prog 18 #[.int .u32 5, .int .i64 2] w fun e w' => Below w.heap.size w w' ∧ ∃ b o k, e = .returned (.tuple #[.slice (some ⟨b, o, none⟩) 2 k, .int .i64 0]) ∧ w'.cell? ⟨b, o + 1, none⟩ = some (.int .u32 6)) :=
    (hR 5 2 w (by omega) ⟨by omega, by omega⟩).mono fun e w' ⟨hb, h⟩ => by
      rcases h with ⟨h, _⟩ | ⟨_, _, _, h, _⟩ | ⟨n, hn, _, _, _, a, k, he, hu⟩
      · omega
      · omega
      · obtain rfl : n = 2 := by omega
        obtain ⟨b, off, rfl, _, hc⟩ := hu.some (k := 1) (by simp)
        exact ⟨hb, b, off, k, he, hc⟩
  go_enter Tryz.func6, Tryz.ntmps6
  go_upto_region 2 with (go_at_call 18; refine HR.out.mono ?_; rintro e w1 ⟨b1, b, o, k, rfl, hc⟩)
  go_wp2_with fail
  go_ret
  exact ⟨rfl, b1⟩
end Go.Proofs.YtcopjbapglndgaaGreatDoor
end

section
namespace Go.Proofs.YtcopjbapglndgaaGreatDoor
open Go.ChangeShapes Go.WideShapes Go.ChangeAt Go.RowKit Go.Joins
set_option linter.unusedVariables false

/-- A row of uint32s that a call fills. -/
def uV (g : Nat → Nat) (j : Nat) : Value := .int .u32 ((g j : Nat) : Int)
theorem infoU : (Tryz.prog.info? 44).map (fun i => (i.zero, i.size, i.bytes)) = some (some (.int .u32 0), 1, 4) := by kernel_rfl
set_option maxRecDepth 100000 in
theorem make_us (n : Nat) (hn : n ≤ 1000000) (w : World) : (Instr.makeSlice 23 (.int .i64 (n : Int)) (.int .i64 (n : Int))).run Tryz.prog w = .ok (.slice (some ⟨w.heap.size, 0, none⟩) n n) (w.alloc (.cells (rowArr n (uV fun _ => 0)) 44)) := by
  have h := run_make_row' (P := Tryz.prog) 23 44 (.int .u32 0) 4 Tryz.underlying23 infoU rfl .i64 .i64 n (by omega) (by omega) w
  rw [h]
  congr 3
  apply Array.ext
  · simp [madeCells, rowArr]
  · intro i h1 h2
    simp [madeCells, rowArr, uV, Nat.mod_one]

structure RgSt (W w : World) (f n k : Nat) : Prop where
  below : Below W.heap.size W w
  row : Row w W.heap.size 44 n k (uV (f + ·))
theorem rg_start (w : World) (f n : Nat) : RgSt w (w.alloc (.cells (rowArr n (uV fun _ => 0)) 44)) f n 0 :=
  ⟨(Below.refl _ _).alloc (Nat.le_refl _) _, (Row.new_whole w _ _ (uV fun _ => 0) _ _ rfl rfl).mono (Nat.zero_le _) (fun j hj => by omega)⟩
theorem RgSt.set {W w : World} {f n k : Nat} (h : RgSt W w f n k) (hk : k < n) {u : Value} (hu : u = .int .u32 ((f + k : Nat) : Int)) : RgSt W (w.setCell ⟨W.heap.size, k, none⟩ u) f n (k + 1) :=
  ⟨h.below.setCell (Nat.le_refl _) _, h.row.set hk hu⟩
theorem RgSt.us {W w : World} {f n : Nat} (h : RgSt W w f n n) (hf : f + n ≤ 4294967296) (hn : n ≤ 1000) : Us w (some ⟨W.heap.size, 0, none⟩) n ((List.range n).map (f + ·)) := by
  refine ⟨fun x hx => ?_, by simp, by unfold maxLen; omega, fun e => (by cases e), .inr ⟨W.heap.size, 0, rfl, h.row.lt, fun i hi => ?_⟩⟩
  · obtain ⟨i, hi, rfl⟩ := List.mem_map.1 hx
    have := List.mem_range.1 hi
    show f + i < _
    omega
  · have hi' : i < n := by simpa using hi
    rw [Nat.zero_add, h.row.cell i hi']
    simp [uV]

set_option maxHeartbeats 1000000 in
theorem beyond_any (f : Nat) (c : Int) (w : World) (hf : f < 4294967296) (h1 : 1 ≤ c) (h2 : c ≤ 9223372036854775807) (B : Bool) (hB : decide (4294967295 < c ∨ 4294967296 < (f : Int) + c) = B) :
    Calls Tryz.prog 37 #[.int .u32 (f : Int), .int .i64 c] w fun e w' => e = .returned (.bool B) ∧ w = w' := by
  by_cases h3 : 4294967295 < c
  · have HD : Hid (B = true) := by show _ = _; rw [← hB]; exact decide_eq_true (.inl h3)
    clear hB
    go_enter Tryz.func37, Tryz.ntmps37
    go_wp2_with fail
    go_ret
    rw [HD.out]
    exact ⟨rfl, rfl⟩
  · have HD : Hid (decide (4294967295 < (f : Int) + c - 1) = B) := by
      show _ = _
      rw [← hB]
      rw [decide_eq_decide]
      omega
    clear hB
    have f1 : (0 : Int) ≤ f := by omega
    have f2 : (f : Int) < 4294967296 := by omega
    go_enter Tryz.func37, Tryz.ntmps37
    go_wp2_with fail
    go_ret
    rw [HD.out]
    exact ⟨rfl, rfl⟩

set_option maxRecDepth 1000000 in
set_option maxHeartbeats 4000000 in
theorem vrange_any : VRangeC := by
  intro f c w hf hc
  obtain ⟨hc1, hc2⟩ := hc
  by_cases h1 : c < 1
  · have HP : Hid (VRangePost f c w (.returned (.tuple #[.slice none 0 0, .int .i64 1])) w) := ⟨Below.refl _ _, .inl ⟨.inl h1, rfl⟩⟩
    go_enter Tryz.func18, Tryz.ntmps18
    go_wp2_with fail
    go_ret2
    exact HP.out
  · have HB := Lib.hid (beyond_any f c w hf (by omega) hc2 _ rfl)
    by_cases h2 : 4294967295 < c ∨ 4294967296 < (f : Int) + c
    · have HP : Hid (VRangePost f c w (.returned (.tuple #[.slice none 0 0, .int .i64 1])) w) := ⟨Below.refl _ _, .inl ⟨.inr h2, rfl⟩⟩
      rw [decide_eq_true h2] at HB
      clear h2
      go_enter Tryz.func18, Tryz.ntmps18
      go_wp2_with (go_at_call 37; refine HB.out.mono ?_; rintro e w1 ⟨rfl, rfl⟩)
      go_ret2
      exact HP.out
    · have h3 : c ≤ 4294967295 := by omega
      have h4 : (f : Int) + c ≤ 4294967296 := by omega
      rw [decide_eq_false h2] at HB
      clear h2
      by_cases h5 : 64 < c
      · have HP : Hid (VRangePost f c w (.returned (.tuple #[.slice none 0 0, .int .i64 5])) w) := ⟨Below.refl _ _, .inr (.inl ⟨by omega, h3, h4, h5, rfl⟩)⟩
        go_enter Tryz.func18, Tryz.ntmps18
        go_wp2_with (go_at_call 37; refine HB.out.mono ?_; rintro e w1 ⟨rfl, rfl⟩)
        go_ret2
        exact HP.out
      · obtain ⟨n, rfl⟩ : ∃ n : Nat, c = (n : Int) := ⟨c.toNat, by omega⟩
        have hn1 : 1 ≤ n := by omega
        have hn2 : n ≤ 64 := by omega
        have hfn : f + n ≤ 4294967296 := by omega
        have HE : Hid (∀ w', RgSt w w' f n n → VRangePost f n w (.returned (.tuple #[.slice (some ⟨w.heap.size, 0, none⟩) n n, .int .i64 0])) w') := fun w' h => ⟨h.below, .inr (.inr ⟨n, rfl, hn1, hfn, hn2, _, _, rfl, h.us hfn (by omega)⟩)⟩
        have hmk := make_us n (by omega) w
        have HR0 := Lib.hid (rg_start w f n)
        have HFN := Lib.hid hfn
        go_enter Tryz.func18, Tryz.ntmps18
        go_wp2_with (go_at_call 37; refine HB.out.mono ?_; rintro e w1 ⟨rfl, rfl⟩)
        clear hmk
        go_loopw [21] (fun i wr => ∃ k : Nat, k ≤ n ∧ i = .int .i64 k ∧ Hid (RgSt w wr f n k)) (fun i _ => n - (intOf i).toNat)
        case atStart => exact ⟨0, by omega, rfl, HR0⟩
        case round =>
          obtain ⟨k, hk, rfl, HS⟩ := hrel
          by_cases hlt : k < n
          · have i1 : (0 : Int) ≤ (k : Int) := by omega
            have i2 : (k : Int) < (n : Int) := by omega
            have i3 : (k : Int) < 4294967296 := by omega
            have i4 : (f : Int) + (k : Int) < 4294967296 := by omega
            have hlo := HS.out.row.loose k
            obtain ⟨v0, hv0⟩ := HS.out.row.has k hlt
            go_wp2_with fail
            have HS2 := Lib.hid (HS.out.set hlt (u := .int .u32 ((f : Int) + (k : Int))) (by rw [Int.natCast_add]))
            go_roundw
            case rel => exact ⟨k + 1, by omega, by go_num, HS2⟩
            case measure => simp [intOf]; omega
          · obtain rfl : n = k := by omega
            go_wp2_with fail
            go_ret2
            exact HE.out _ HS.out
end Go.Proofs.YtcopjbapglndgaaGreatDoor
end

section
namespace Go.Proofs.YtcopjbapglndgaaGreatDoor
open Go.ChangeShapes Go.WideShapes Go.ChangeAt Go.RowKit Go.Joins
set_option linter.unusedVariables false

section
variable {H : Type} {enc : TypeId × Value → H} {w : World} {base : Nat} {spare : Nat → Bool} {held : Bool}

theorem bytes_in2 {fuel : Nat} {c : Value} {x : DataW H × List MemPlace} (h : DataW.trod enc Tryz.prog w base spare held fuel 35 [c] = some x) :
    ∃ a cap l, c = .slice a l.length cap ∧ Sl w a cap l ∧ ((∀ n ∈ DataW.weights Tryz.prog 35 x.1, n ≤ reachBytes) → l.length ≤ 140737488351232) := by
  obtain ⟨a, cap, l, e, hs⟩ := bytes_in h
  refine ⟨a, cap, l, e, hs, fun hw => ?_⟩
  rcases open_ints Tryz.underlying35 Tryz.underlying5 cells8 h with ⟨hcs, hx⟩ | ⟨a', len, cap', zs, hcs, _, hl, hm, hz, hx, hcell, hwz⟩
  · simp only [List.cons.injEq, and_true] at hcs
    rw [e] at hcs
    injection hcs with _ h2 _
    omega
  · simp only [List.cons.injEq, and_true] at hcs
    rw [e] at hcs
    injection hcs with _ h2 _
    subst hx
    have := hw (((lits (H := H) .u8 (zs.take len)).length + (lits (H := H) .u8 (zs.drop len)).length) * Tryz.prog.bytesOf 5) (by simp [DataW.weights, Tryz.underlying35])
    rw [show Tryz.prog.bytesOf 5 = 1 from by kernel_rfl] at this
    have hr : reachBytes = 140737488351232 := rfl
    have hlz : len ≤ zs.length := by rw [hz]; split <;> omega
    simp [lits] at this
    omega
theorem weights_mem {e : TypeId} : ∀ {l : List (DataW H)} {d : DataW H}, d ∈ l → ∀ n ∈ DataW.weights Tryz.prog e d, n ∈ DataW.weightsAll Tryz.prog e l
  | x :: l, d, hd, n, hn => by
    simp only [DataW.weightsAll, List.mem_append]
    rcases List.mem_cons.1 hd with rfl | hd
    · exact .inl hn
    · exact .inr (weights_mem hd n hn)
end
end Go.Proofs.YtcopjbapglndgaaGreatDoor
end

section
namespace Go.Proofs.YtcopjbapglndgaaGreatDoor
open Go.ChangeShapes Go.WideShapes Go.ChangeAt Go.RowKit Go.Joins
set_option linter.unusedVariables false

/-- Blocks that X does not name stay. -/
structure Fr (X : Nat → Prop) (w w' : World) : Prop where
  os : w'.os = w.os
  tape : w'.tape = w.tape
  output : w'.output = w.output
  size : w.heap.size ≤ w'.heap.size
  block : ∀ k, k < w.heap.size → ¬ X k → w'.heap[k]? = w.heap[k]?
theorem Fr.refl (X : Nat → Prop) (w : World) : Fr X w w := ⟨rfl, rfl, rfl, Nat.le_refl _, fun _ _ _ => rfl⟩
theorem Fr.trans {X : Nat → Prop} {a b c : World} (h : Fr X a b) (k : Fr X b c) : Fr X a c :=
  ⟨k.os.trans h.os, k.tape.trans h.tape, k.output.trans h.output, Nat.le_trans h.size k.size, fun i hi hx => (k.block i (Nat.lt_of_lt_of_le hi h.size) hx).trans (h.block i hi hx)⟩
theorem Fr.mono {X Y : Nat → Prop} {w w' : World} (h : Fr X w w') (hs : ∀ k, k < w.heap.size → X k → Y k) : Fr Y w w' := ⟨h.os, h.tape, h.output, h.size, fun k hk hy => h.block k hk fun hx => hy (hs k hk hx)⟩
theorem Fr.of_below {X : Nat → Prop} {w w' : World} (h : Below w.heap.size w w') : Fr X w w' := ⟨h.os, h.tape, h.output, h.size, fun k hk _ => h.block k hk⟩
theorem Fr.below {X : Nat → Prop} {B : Nat} {w w' : World} (h : Fr X w w') (hB : B ≤ w.heap.size) (hx : ∀ k, k < B → ¬ X k) : Below B w w' := ⟨h.os, h.tape, h.output, h.size, fun k hk => h.block k (by omega) (hx k hk)⟩
theorem Fr.set {X : Nat → Prop} {a w : World} (h : Fr X a w) {p : Addr} (hp : p.block < a.heap.size → X p.block) (u : Value) : Fr X a (w.setCell p u) :=
  ⟨h.os, h.tape, h.output, by simpa using h.size, fun k hk hx => by
    rw [Below.heap_setCell _ _ _ _ fun e => hx (by subst e; exact hp hk)]
    exact h.block k hk hx⟩
theorem Fr.setRow {X : Nat → Prop} {a w : World} (h : Fr X a w) {g : Nat} (hp : g < a.heap.size → X g) (cs : Array Value) : Fr X a (w.setRow g cs) :=
  ⟨h.os, h.tape, h.output, by simpa [World.setRow] using h.size, fun k hk hx => by
    rw [Go.setRow_other _ _ _ _ fun e => hx (by subst e; exact hp hk)]
    exact h.block k hk hx⟩
theorem Fr.later {X : Nat → Prop} {a w w' : World} (h : Fr X a w) (k : Below w.heap.size w w') : Fr X a w' := h.trans (Fr.of_below k)
theorem Fr.of_grown {X : Nat → Prop} {w w' : World} {row : Option Nat} (h : w.grownBy w' row) (hx : ∀ b, row = some b → X b) : Fr X w w' := ⟨h.os, h.tape, h.output, h.size, fun k hk hn => h.block k hk fun e => hn (hx k e.symm)⟩
end Go.Proofs.YtcopjbapglndgaaGreatDoor
end

section
namespace Go.Proofs.YtcopjbapglndgaaGreatDoor
open Go.ChangeShapes Go.WideShapes Go.ChangeAt Go.RowKit Go.Joins
set_option linter.unusedVariables false

/-- An item: its kind, number, size, bytes. -/
structure Itm where
  k : Nat
  v : Int
  n : Int
  b : List Nat
instance : Inhabited Itm := ⟨⟨0, 0, 0, []⟩⟩
/-- The four cells of an item. -/
def ItmAt (w : World) (p off : Nat) (x : Itm) : Prop := ∃ a c, w.cell? ⟨p, off, none⟩ = some (.int .u8 (x.k : Int)) ∧ w.cell? ⟨p, off + 1, none⟩ = some (.int .i64 x.v) ∧ w.cell? ⟨p, off + 2, none⟩ = some (.int .i64 x.n) ∧ w.cell? ⟨p, off + 3, none⟩ = some (.slice a x.b.length c) ∧ Sl w a c x.b
theorem ItmAt.below {w w' : World} {p off : Nat} {x : Itm} (h : ItmAt w p off x) (k : Below w.heap.size w w') : ItmAt w' p off x := by
  obtain ⟨a, c, h0, h1, h2, h3, h4⟩ := h
  have hp : p < w.heap.size := World.block_lt_of_cell? w _ h0
  exact ⟨a, c, (k.cell (p := ⟨p, off, none⟩) hp).trans h0, (k.cell (p := ⟨p, off + 1, none⟩) hp).trans h1, (k.cell (p := ⟨p, off + 2, none⟩) hp).trans h2, (k.cell (p := ⟨p, off + 3, none⟩) hp).trans h3, h4.below k⟩
def ItmOk (x : Itm) : Prop := x.k < 256 ∧ (-9223372036854775808 ≤ x.v ∧ x.v ≤ 9223372036854775807) ∧ (-9223372036854775808 ≤ x.n ∧ x.n ≤ 9223372036854775807) ∧ x.b.length ≤ 140737488351232
/-- The slice '.slice a l.length cap' reads as these items. -/
structure Its (w : World) (a : Option Addr) (cap : Nat) (l : List Itm) : Prop where
  rng : ∀ x ∈ l, ItmOk x
  len : l.length ≤ cap
  most : cap ≤ maxLen
  here : l = [] ∨ ∃ b off, a = some ⟨b, off, none⟩ ∧ b < w.heap.size ∧ ∀ i (h : i < l.length), ItmAt w b (off + i * 4) l[i]
theorem Its.below {w w' : World} {a : Option Addr} {cap : Nat} {l : List Itm} (h : Its w a cap l) (k : Below w.heap.size w w') : Its w' a cap l :=
  ⟨h.rng, h.len, h.most, by
    rcases h.here with e | ⟨b, off, e, hb, hc⟩
    · exact .inl e
    · exact .inr ⟨b, off, e, Nat.lt_of_lt_of_le hb k.size, fun i hi => (hc i hi).below k⟩⟩
theorem its_one {w : World} {a : Option Addr} {cap : Nat} {l : List Itm} (h : Its w a cap l) {i : Nat} (hi : i < l.length) : ∃ b off, a = some ⟨b, off, none⟩ ∧ b < w.heap.size ∧ ItmAt w b (off + i * 4) l[i] := by
  rcases h.here with rfl | ⟨b, off, e, hb, hc⟩
  · simp at hi
  · exact ⟨b, off, e, hb, hc i hi⟩
theorem Its.lt {w : World} {a : Option Addr} {cap : Nat} {l : List Itm} (h : Its w a cap l) : l.length ≤ 9223372036854775807 := by
  have h1 := h.len; have h2 := h.most; unfold maxLen at h2; omega

section
variable {H : Type} {enc : TypeId × Value → H} {w : World} {base : Nat}

end

/-- Not too many, of not too many bytes. -/
def bulkI (l : List Itm) : Nat := (l.map fun x => x.b.length).sum
def fewI (l : List Itm) : Bool := decide (l.length ≤ 100) && decide (bulkI l ≤ 20000)
theorem fewI_iff {l : List Itm} : fewI l = true ↔ l.length ≤ 100 ∧ bulkI l ≤ 20000 := by simp [fewI]
theorem bulk_take {l : List Itm} {k : Nat} (h : k < l.length) : bulkI (l.take (k + 1)) = bulkI (l.take k) + l[k].b.length := by
  unfold bulkI
  rw [List.take_succ_eq_append_getElem h, List.map_append, List.sum_append]
  simp
theorem bulk_le (l : List Itm) (k : Nat) : bulkI (l.take k) ≤ bulkI l := by
  unfold bulkI
  conv => rhs; rw [← List.take_append_drop k l, List.map_append, List.sum_append]
  omega

end Go.Proofs.YtcopjbapglndgaaGreatDoor
end

section
namespace Go.Proofs.YtcopjbapglndgaaGreatDoor
set_option linter.unusedVariables false

/-- A number in so many bytes, the greatest first. -/
def wideN : Nat → Nat → List Nat
  | _, 0 => []
  | v, n + 1 => wideN (v / 256) n ++ [v % 256]
/-- Bytes as a number. -/
def numN (l : List Nat) : Nat := l.foldl (fun a x => a * 256 + x) 0
theorem wideN_len : ∀ (n v : Nat), (wideN v n).length = n
  | 0, _ => rfl
  | n + 1, v => by simp [wideN, wideN_len n]
theorem wideN_byte : ∀ (n v : Nat), ∀ x ∈ wideN v n, x < 256
  | 0, _, x, hx => by simp [wideN] at hx
  | n + 1, v, x, hx => by
    rw [wideN] at hx
    rcases List.mem_append.1 hx with h | h
    · exact wideN_byte n _ x h
    · rw [List.mem_singleton.1 h]; omega
theorem numN_snoc (l : List Nat) (x : Nat) : numN (l ++ [x]) = numN l * 256 + x := by simp [numN]
theorem numN_wide : ∀ (n v : Nat), v < 256 ^ n → numN (wideN v n) = v
  | 0, v, h => by simp at h; subst h; rfl
  | n + 1, v, h => by
    rw [wideN, numN_snoc, numN_wide n (v / 256) (by rw [Nat.pow_succ] at h; omega)]
    omega
theorem numTo_lt : ∀ (l : List Nat) (a : Nat), (∀ x ∈ l, x < 256) → l.foldl (fun a x => a * 256 + x) a + 1 ≤ (a + 1) * 256 ^ l.length
  | [], a, _ => by simp
  | x :: l, a, h => by
    have h1 := numTo_lt l (a * 256 + x) fun y hy => h y (List.mem_cons_of_mem _ hy)
    have hx := h x (by simp)
    have h2 : (a * 256 + x + 1) * 256 ^ l.length ≤ ((a + 1) * 256) * 256 ^ l.length := Nat.mul_le_mul_right _ (by omega)
    rw [List.length_cons, Nat.pow_succ, List.foldl_cons]
    calc _ ≤ _ := h1
      _ ≤ _ := h2
      _ = _ := by rw [Nat.mul_assoc, Nat.mul_comm 256]
theorem numN_lt (l : List Nat) (h : ∀ x ∈ l, x < 256) : numN l < 256 ^ l.length := by
  have h1 := numTo_lt l 0 h
  simp only [Nat.zero_add, Nat.one_mul] at h1
  exact h1

/-- What an Out gets: a number, a text; none: it is spoilt. -/
def putN (v n : Int) : Option (List Nat) := if 1 ≤ n ∧ n ≤ 6 ∧ 0 ≤ v ∧ v < 256 ^ n.toNat then some (wideN v.toNat n.toNat) else none
def putT (b : List Nat) : Option (List Nat) := if b.length ≤ 255 then some (b.length :: b) else none
def addO (s p : Option (List Nat)) : Option (List Nat) := s.bind fun l => p.map fun m => l ++ m
/-- What an In gives: so many bytes, and the rest; none: it is bad. -/
def takeI (s : Option (List Nat)) (n : Int) : Option (List Nat × List Nat) := s.bind fun l => if 0 ≤ n ∧ n ≤ (l.length : Int) then some (l.take n.toNat, l.drop n.toNat) else none
def gN (s : Option (List Nat)) (n : Int) : Option (List Nat × List Nat) := if 1 ≤ n ∧ n ≤ 6 then takeI s n else none
def gT (s : Option (List Nat)) : Option (List Nat × List Nat) := (gN s 1).bind fun p => takeI (some p.2) (numN p.1 : Nat)
def ansN (s : Option (List Nat)) (n : Int) : Nat := ((gN s n).map fun p => numN p.1).getD 0
def restN (s : Option (List Nat)) (n : Int) : Option (List Nat) := (gN s n).map Prod.snd
def ansT (s : Option (List Nat)) : List Nat := ((gT s).map Prod.fst).getD []
def restT (s : Option (List Nat)) : Option (List Nat) := (gT s).map Prod.snd
def ansR (s : Option (List Nat)) (n : Int) : List Nat := ((takeI s n).map Prod.fst).getD []
def restR (s : Option (List Nat)) (n : Int) : Option (List Nat) := (takeI s n).map Prod.snd
def leftI (s : Option (List Nat)) : Nat := (s.getD []).length

theorem take_app (x r : List Nat) : takeI (some (x ++ r)) (x.length : Int) = some (x, r) := by
  simp [takeI]
theorem putN_some {v n : Int} {x : List Nat} (h : putN v n = some x) : 1 ≤ n ∧ n ≤ 6 ∧ (x.length : Int) = n ∧ (numN x : Int) = v ∧ ∀ y ∈ x, y < 256 := by
  unfold putN at h
  split at h
  · rename_i hc
    obtain ⟨h1, h2, h3, h4⟩ := hc
    cases h
    refine ⟨h1, h2, by rw [wideN_len]; omega, ?_, wideN_byte _ _⟩
    rw [numN_wide _ _ (by
      have : (v.toNat : Int) < ((256 ^ n.toNat : Nat) : Int) := by rw [Int.toNat_of_nonneg h3, Int.natCast_pow]; exact h4
      exact Int.ofNat_lt.1 this)]
    omega
  · cases h
theorem back_n {v n : Int} {x r : List Nat} (h : putN v n = some x) : (ansN (some (x ++ r)) n : Int) = v ∧ restN (some (x ++ r)) n = some r := by
  obtain ⟨h1, h2, h3, h4, _⟩ := putN_some h
  have e : gN (some (x ++ r)) n = some (x, r) := by
    unfold gN
    rw [if_pos ⟨h1, h2⟩, ← h3, take_app]
  exact ⟨by unfold ansN; rw [e]; exact h4, by unfold restN; rw [e]; rfl⟩
theorem back_t {b x r : List Nat} (h : putT b = some x) : ansT (some (x ++ r)) = b ∧ restT (some (x ++ r)) = some r := by
  unfold putT at h
  split at h
  · cases h
    have e : gT (some (b.length :: b ++ r)) = some (b, r) := by
      have e1 : gN (some (b.length :: b ++ r)) 1 = some ([b.length], b ++ r) := by
        have := take_app [b.length] (b ++ r)
        simpa [gN] using this
      unfold gT
      rw [e1]
      show takeI (some (b ++ r)) (numN [b.length] : Nat) = _
      rw [show numN [b.length] = b.length by simp [numN], take_app]
    exact ⟨by unfold ansT; rw [e]; rfl, by unfold restT; rw [e]; rfl⟩
  · cases h
theorem back_r {b r : List Nat} : ansR (some (b ++ r)) (b.length : Int) = b ∧ restR (some (b ++ r)) (b.length : Int) = some r := by
  simp [ansR, restR, take_app]
end Go.Proofs.YtcopjbapglndgaaGreatDoor
end

section
namespace Go.Proofs.YtcopjbapglndgaaGreatDoor
open Go.ChangeShapes Go.WideShapes Go.ChangeAt Go.RowKit Go.Joins
set_option linter.unusedVariables false

/-- The cells of a codec.Out's zero value. -/
def outZ : Array Value := #[.pointer none, .bool false]
def i64R (z : Int) : Prop := -9223372036854775808 ≤ z ∧ z ≤ 9223372036854775807
/-- Od X w b s q: block b is an Out that has got the bytes s (none: it is spoilt), at most q bytes were put, all of it lies in blocks that X names. -/
def OutPost (Od : (Nat → Prop) → World → Nat → Option (List Nat) → Nat → Prop) (X : Nat → Prop) (w : World) (b : Nat) (s : Option (List Nat)) (q : Nat) (e : Ending) (w' : World) : Prop :=
  e = .returned (.tuple #[]) ∧ ∃ X', Od X' w' b s q ∧ (∀ k, X' k → X k ∨ w.heap.size ≤ k) ∧ Fr X w w'
structure OutC (Od : (Nat → Prop) → World → Nat → Option (List Nat) → Nat → Prop) : Prop where
  zero : ∀ w : World, Od (fun k => k = w.heap.size) (w.alloc (.cells outZ 122)) w.heap.size (some []) 0
  keep : ∀ {X Y : Nat → Prop} {w w' : World} {b : Nat} {s : Option (List Nat)} {q : Nat}, Od X w b s q → Fr Y w w' → (∀ k, X k → ¬ Y k) → Od X w' b s q
  lt : ∀ {X : Nat → Prop} {w : World} {b : Nat} {s : Option (List Nat)} {q : Nat}, Od X w b s q → ∀ k, X k → k < w.heap.size
  mono : ∀ {X : Nat → Prop} {w : World} {b : Nat} {s : Option (List Nat)} {q q' : Nat}, Od X w b s q → q ≤ q' → Od X w b s q'
  n : ∀ (X : Nat → Prop) (w : World) (b : Nat) (s : Option (List Nat)) (q : Nat) (v n : Int), Od X w b s q → q ≤ 40000 → i64R v → i64R n →
    Calls Tryz.prog 79 #[.pointer (some ⟨b, 0, none⟩), .int .i64 v, .int .i64 n] w (OutPost Od X w b (addO s (putN v n)) (q + 6))
  text : ∀ (X : Nat → Prop) (w : World) (b : Nat) (s : Option (List Nat)) (q : Nat) (l : List Nat), Od X w b s q → q ≤ 40000 → IsByte l → l.length ≤ 20000 →
    Calls Tryz.prog 86 #[.pointer (some ⟨b, 0, none⟩), .string (strOf l)] w (OutPost Od X w b (addO s (putT l)) (q + l.length + 6))
  raw : ∀ (X : Nat → Prop) (w : World) (b : Nat) (s : Option (List Nat)) (q : Nat) (a : Option Addr) (c : Nat) (l : List Nat), Od X w b s q → q ≤ 40000 → Sl w a c l → l.length ≤ 20000 →
    Calls Tryz.prog 78 #[.pointer (some ⟨b, 0, none⟩), .slice a l.length c] w (OutPost Od X w b (addO s (some l)) (q + l.length))
  endOk : ∀ (X : Nat → Prop) (w : World) (b : Nat) (l : List Nat) (q : Nat), Od X w b (some l) q → q ≤ 40000 →
    Calls Tryz.prog 72 #[.pointer (some ⟨b, 0, none⟩)] w fun e w' => ∃ a c, e = .returned (.tuple #[.slice a l.length c, .int .i64 0]) ∧ Sl w' a c l ∧ Below w.heap.size w w'
  endBad : ∀ (X : Nat → Prop) (w : World) (b : Nat) (q : Nat), Od X w b none q → q ≤ 40000 →
    Calls Tryz.prog 72 #[.pointer (some ⟨b, 0, none⟩)] w fun e w' => ∃ a c, e = .returned (.tuple #[.slice a 0 c, .int .i64 1]) ∧ Below w.heap.size w w'
  nilN : ∀ (w : World) (v n : Int), i64R v → i64R n → Calls Tryz.prog 79 #[.pointer none, .int .i64 v, .int .i64 n] w fun e w' => e = .returned (.tuple #[]) ∧ Below w.heap.size w w'
  nilText : ∀ (w : World), Calls Tryz.prog 86 #[.pointer none, .string (strOf [97])] w fun e w' => e = .returned (.tuple #[]) ∧ Below w.heap.size w w'
  nilRaw : ∀ (w : World) (a : Option Addr) (c : Nat), Sl w a c [98] → Calls Tryz.prog 78 #[.pointer none, .slice a 1 c] w fun e w' => e = .returned (.tuple #[]) ∧ Below w.heap.size w w'
  nilEnd : ∀ (w : World), Calls Tryz.prog 72 #[.pointer none] w fun e w' => ∃ a c, e = .returned (.tuple #[.slice a 0 c, .int .i64 1]) ∧ Below w.heap.size w w'

/-- Id B X w b s: block b is an In that has these bytes left (none: it is bad), all of it that is written lies in blocks that X names, its bytes below B or in X's. -/
def InPost (Id : Nat → (Nat → Prop) → World → Nat → Option (List Nat) → Prop) (B : Nat) (X : Nat → Prop) (w : World) (b : Nat) (s : Option (List Nat)) (w' : World) : Prop :=
  ∃ X', Id B X' w' b s ∧ (∀ k, X' k → X k ∨ w.heap.size ≤ k) ∧ Fr X w w'
end Go.Proofs.YtcopjbapglndgaaGreatDoor
end
