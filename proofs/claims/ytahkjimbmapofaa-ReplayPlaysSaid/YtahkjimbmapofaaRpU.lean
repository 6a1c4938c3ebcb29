/-
  Package replay: a copy of bytes; whether a slot is there.
-/
import Derived.Test.YtahkjimbmapofaaAppB
import Derived.Test.YtahkjimbmapofaaRpA
namespace Go.Proofs.Ytahkjimbmapofaa
open Go.ChangeShapes Go.WideShapes Go.ChangeAt Go.RowKit Go.Joins
set_option linter.unusedVariables false

theorem eqs_no (w : World) : (binOp BinOp.eql 34 (.slice none 0 0) (.slice none 0 0)).run Try.prog w = .ok (.bool true) w := by kernel_rfl
theorem eqs_yes (ad : Addr) (n cap : Nat) (w : World) : (binOp BinOp.eql 34 (.slice (some ad) n cap) (.slice none 0 0)).run Try.prog w = .ok (.bool false) w := by kernel_rfl

set_option maxRecDepth 100000 in
theorem clone_any (a : Option Addr) (cap : Nat) (l : List Nat) (w : World) (hl : l.length ≤ 100000) (hs : Sl w a cap l) :
    Calls Try.prog 19 #[.slice a l.length cap] w fun e w' => ∃ sa sc, e = .returned (.slice sa l.length sc) ∧ Rw 0 w' sa sc l ∧ Below w.heap.size w w' := by
  cases a with
  | none =>
    obtain ⟨rfl, rfl⟩ := hs.none rfl
    have hq := eqs_no w
    have HR : Hid (Rw 0 w none 0 []) := nil_rw 0 w
    clear hs
    go_enter Try.func19, Try.ntmps19
    go_wp2_with fail
    go_ret
    exact ⟨_, _, rfl, HR.out, Below.refl _ _⟩
  | some ad =>
    have hq := eqs_yes ad l.length cap w
    have HB : Hid (Below w.heap.size w (w.alloc (.cells #[] 5))) := (Below.refl _ _).alloc (Nat.le_refl _) _
    have HS : Hid (Sl (w.alloc (.cells #[] 5)) (some ad) cap l) := hs.below HB.out
    have HE : Hid (Rw 0 (w.alloc (.cells #[] 5)) (some ⟨w.heap.size, 0, none⟩) 0 []) := ⟨⟨by simp [IsByte], by simp, by simp, fun e => (by cases e), .inl rfl⟩, fun h => absurd rfl h⟩
    have hlm := hs.lt
    have hcm : cap ≤ 9223372036854775807 := by have := hs.most; unfold maxLen at this; omega
    clear hs
    go_enter Try.func19, Try.ntmps19
    go_wp2_with (at_builtin; refine wpList_appB 0 w.heap.size 0 [] (some ad) cap l.length l _ rfl _ _ rfl rfl rfl rfl HE.out rfl HS.out (by omega) hl ?_; intro g2 c2 w2 HR2 hb2)
    have HW := Lib.hid (HB.out.trans (hb2.mono HB.out.size))
    go_ret
    exact ⟨some ⟨g2, 0, none⟩, c2, by simp, by simpa using HR2.out, HW.out⟩

/-- The block b is a board of these rows, its slots in block g, all of it from block B on. -/
structure Bq (B : Nat) (w : World) (b g : Nat) (rows : Rws) : Prop where
  low : B ≤ b
  blk : w.heap[b]? = some (.cells #[.slice (some ⟨g, 0, none⟩) rows.length rows.length] 50 (0, 0))
  grid : Grid B w g rows
theorem Bq.cell {B : Nat} {w : World} {b g : Nat} {rows : Rws} (h : Bq B w b g rows) : w.cell? ⟨b, 0, none⟩ = some (.slice (some ⟨g, 0, none⟩) rows.length rows.length) := by rw [cell_of_block h.blk]; rfl
theorem Bq.lt {B : Nat} {w : World} {b g : Nat} {rows : Rws} (h : Bq B w b g rows) : b < w.heap.size := (Array.getElem?_eq_some_iff.1 h.blk).1
theorem Bq.ne {B : Nat} {w : World} {b g : Nat} {rows : Rws} (h : Bq B w b g rows) : b ≠ g := fun e => by
  subst e
  obtain ⟨vs, ⟨cs, e1, _⟩, _⟩ := h.grid.row
  have := h.blk
  rw [e1] at this
  injection this with this
  injection this with _ this
  exact absurd this (by decide)
theorem Bq.keep {B : Nat} {w w' : World} {b g : Nat} {rows : Rws} (h : Bq B w b g rows) (k : Below w.heap.size w w') : Bq B w' b g rows := ⟨h.low, (k.block b h.lt).trans h.blk, h.grid.below k⟩
theorem Bq.set {B : Nat} {w : World} {b g : Nat} {rows : Rws} (h : Bq B w b g rows) {i : Nat} (hi : i < rows.length) {a : Option Addr} {c : Nat} {x : List Nat} (hx : Rw B w a c x) : Bq B (w.setCell ⟨g, i, none⟩ (.slice a x.length c)) b g (rows.set i x) :=
  ⟨h.low, by rw [Below.heap_setCell _ _ _ _ h.ne, List.length_set]; exact h.blk, h.grid.set hi hx⟩
theorem Bq.set_below {B : Nat} {a w : World} {b g : Nat} {rows : Rws} (h : Bq B w b g rows) (k : Below B a w) (i : Nat) (u : Value) : Below B a (w.setCell ⟨g, i, none⟩ u) := k.setCell (p := ⟨g, i, none⟩) h.grid.low _
/-- The block b is a board of these rows, all of it from block B on. -/
def Brd (B : Nat) (w : World) (b : Nat) (rows : Rws) : Prop := ∃ g, Bq B w b g rows
theorem Brd.keep {B : Nat} {w w' : World} {b : Nat} {rows : Rws} (h : Brd B w b rows) (k : Below w.heap.size w w') : Brd B w' b rows := h.imp fun _ q => q.keep k
theorem Brd.base {B : Nat} {w : World} {b : Nat} {rows : Rws} (h : Brd B w b rows) : B ≤ w.heap.size := by
  obtain ⟨g, q⟩ := h
  exact Nat.le_trans q.low (Nat.le_of_lt q.lt)
theorem Rw.raise0 {B : Nat} {w : World} {a : Option Addr} {cap : Nat} {l : List Nat} (h : Rw 0 w a cap l) : Rw B w a cap l := ⟨h.sl, fun hl p hp => (h.tag hl p hp).imp (fun h => absurd h (Nat.not_lt_zero _)) id⟩
theorem few_lt {rows : Rws} (h : fewC rows = true) : rows.length ≤ 40 := (fewC_iff.1 h).1

set_option maxRecDepth 100000 in
theorem has_any (B : Nat) (w : World) (b : Nat) (rows : Rws) (z : Int) (hb : Brd B w b rows) (h4 : rows.length ≤ 1000) (h1 : -9223372036854775808 ≤ z) (h2 : z ≤ 9223372036854775807) :
    Calls Try.prog 20 #[.pointer (some ⟨b, 0, none⟩), .int .i64 z] w fun e w' => e = .returned (.bool (decide (inS rows.length z))) ∧ w = w' := by
  obtain ⟨g, hq⟩ := hb
  have c0 := hq.cell
  clear hq
  by_cases g0 : (0 : Int) ≤ z
  · have d0 : decide ((0 : Int) ≤ z) = true := decide_eq_true g0
    by_cases g1 : z < (rows.length : Int)
    · have d1 : decide (z < (rows.length : Int)) = true := decide_eq_true g1
      have HR : Hid (decide (inS rows.length z) = true) := decide_eq_true ⟨g0, g1⟩
      go_enter Try.func20, Try.ntmps20
      go_wp2_with fail
      go_ret
      exact ⟨ret_bool HR.out.symm, rfl⟩
    · have d1 : decide (z < (rows.length : Int)) = false := decide_eq_false g1
      have HR : Hid (decide (inS rows.length z) = false) := decide_eq_false fun h => g1 h.2
      go_enter Try.func20, Try.ntmps20
      go_wp2_with fail
      go_ret
      exact ⟨ret_bool HR.out.symm, rfl⟩
  · have d0 : decide ((0 : Int) ≤ z) = false := decide_eq_false g0
    have HR : Hid (decide (inS rows.length z) = false) := decide_eq_false fun h => g0 h.1
    go_enter Try.func20, Try.ntmps20
    go_wp2_with fail
    go_ret
    exact ⟨ret_bool HR.out.symm, rfl⟩
set_option maxRecDepth 100000 in
theorem has_nil (w : World) (z : Int) (h1 : -9223372036854775808 ≤ z) (h2 : z ≤ 9223372036854775807) :
    Calls Try.prog 20 #[.pointer none, .int .i64 z] w fun e w' => e = .returned (.bool false) ∧ w = w' := by
  go_enter Try.func20, Try.ntmps20
  go_wp2_with fail
  go_ret
  exact ⟨rfl, rfl⟩
end Go.Proofs.Ytahkjimbmapofaa
