/-
  A disk's own block: its timers, what it asks ahead of a change, and what it tells of itself.
-/
import Derived.Test.YtoiggdcgfbjhpaaRows
import Derived.WalkKit
import Derived.ProofKit
import Derived.OpenShut
import Derived.Below
import Derived.WalkSpells
import Derived.WalkLawsBesides
import Derived.Outline
import Derived.Deep.QuietTactic
import Derived.BigQuiet
import Derived.Lib.Hide
import Derived.Lib.SmallJoins
namespace Go.Proofs.Ytoiggdcgfbjhpaa
open Go.ChangeShapes Go.WideShapes Go.ChangeAt Go.RowKit Go.Joins
set_option linter.unusedVariables false

/-- What a disk's struct holds, as Go has it. -/
structure Dk where
  cap : Int
  used : Int
  nm : Option Nat
  sf : Option Nat
  wa : Option Addr
  wl : Nat
  wc : Nat
  fs : Bool
  fl : Int
  gs : Bool
  gl : Int
  lost : Bool
def Dk.cells (x : Dk) : Array Value := #[.int .i64 x.cap, .int .i64 x.used, .map x.nm, .map x.sf, .slice x.wa x.wl x.wc, .bool x.fs, .int .i64 x.fl, .bool x.gs, .int .i64 x.gl, .bool x.lost]
/-- Numbers that Go can hold; timers are never below 0. -/
structure Dk.Ok (x : Dk) : Prop where
  cap1 : -9223372036854775808 ≤ x.cap
  cap2 : x.cap ≤ 9223372036854775807
  used1 : -9223372036854775808 ≤ x.used
  used2 : x.used ≤ 9223372036854775807
  fl1 : 0 ≤ x.fl
  fl2 : x.fl ≤ 9223372036854775807
  gl1 : 0 ≤ x.gl
  gl2 : x.gl ≤ 9223372036854775807
  len : x.wl ≤ 9223372036854775807
structure DkAt (w : World) (B : Nat) (x : Dk) : Prop where
  blk : w.heap[B]? = some (.cells x.cells 50 (0, 0))
  ok : x.Ok
theorem DkAt.cell {w : World} {B : Nat} {x : Dk} (h : DkAt w B x) (i : Nat) : w.cell? ⟨B, i, none⟩ = x.cells[i]? := cell_of_row w B i x.cells 50 (0, 0) h.blk
theorem DkAt.loose {w : World} {B : Nat} {x : Dk} (h : DkAt w B x) (i : Nat) : w.frozen? ⟨B, i, none⟩ = false := unfrozen_of_block h.blk i
theorem DkAt.lt {w : World} {B : Nat} {x : Dk} (h : DkAt w B x) : B < w.heap.size := (Array.getElem?_eq_some_iff.1 h.blk).1
/-- Nothing but block B has turned. -/
structure Only (B : Nat) (w w' : World) : Prop where
  os : w'.os = w.os
  tape : w'.tape = w.tape
  output : w'.output = w.output
  size : w'.heap.size = w.heap.size
  block : ∀ k, k ≠ B → w'.heap[k]? = w.heap[k]?
theorem Only.refl (B : Nat) (w : World) : Only B w w := ⟨rfl, rfl, rfl, rfl, fun _ _ => rfl⟩
theorem Only.trans {B : Nat} {a b c : World} (h : Only B a b) (k : Only B b c) : Only B a c := ⟨k.os.trans h.os, k.tape.trans h.tape, k.output.trans h.output, k.size.trans h.size, fun i hi => (k.block i hi).trans (h.block i hi)⟩
theorem Only.set (B i : Nat) (w : World) (v : Value) : Only B w (w.setCell ⟨B, i, none⟩ v) := ⟨rfl, rfl, rfl, by simp, fun k hk => heap_setCell_other w _ k v hk⟩
theorem Only.drew {B : Nat} {a w : World} (h : Only B a w) : Only B a w.drew := ⟨h.os, h.tape, h.output, h.size, h.block⟩
theorem Only.drewN {B : Nat} {a w : World} (h : Only B a w) (n : Nat) : Only B a (w.drewN n) := ⟨h.os, h.tape, h.output, h.size, h.block⟩
theorem DkAt.set {w : World} {B : Nat} {x y : Dk} (h : DkAt w B x) (i : Nat) (v : Value) (hy : y.Ok) (e : x.cells.setIfInBounds i v = y.cells) : DkAt (w.setCell ⟨B, i, none⟩ v) B y :=
  ⟨by rw [heap_setCell_same w B i x.cells _ v h.blk, e], hy⟩

/-- A timer is asked. -/
def dueD (s : Bool) (l : Int) : Bool × Bool × Int := if s then (if 0 < l then (false, true, l - 1) else (true, false, l)) else (false, s, l)

theorem due_off (B o : Nat) (w : World) (h0 : w.cell? ⟨B, o, none⟩ = some (.bool false)) : Calls Try.prog 38 #[.pointer (some ⟨B, o, none⟩)] w fun e w' => e = .returned (.bool false) ∧ w = w' := by
  go_enter Try.func38, Try.ntmps38
  go_wp2_with fail
  go_ret
  exact ⟨rfl, rfl⟩
theorem due_wait (B o : Nat) (l : Int) (w : World) (h0 : w.cell? ⟨B, o, none⟩ = some (.bool true)) (h1 : w.cell? ⟨B, o + 1, none⟩ = some (.int .i64 l)) (f1 : w.frozen? ⟨B, o + 1, none⟩ = false) (hl : 0 < l) (hl2 : l ≤ 9223372036854775807) :
    Calls Try.prog 38 #[.pointer (some ⟨B, o, none⟩)] w fun e w' => e = .returned (.bool false) ∧ w.setCell ⟨B, o + 1, none⟩ (.int .i64 (l - 1)) = w' := by
  go_enter Try.func38, Try.ntmps38
  go_wp2_with fail
  go_ret
  exact ⟨rfl, rfl⟩
theorem due_now (B o : Nat) (l : Int) (w : World) (h0 : w.cell? ⟨B, o, none⟩ = some (.bool true)) (h1 : w.cell? ⟨B, o + 1, none⟩ = some (.int .i64 l)) (f0 : w.frozen? ⟨B, o, none⟩ = false) (hl : ¬ 0 < l) :
    Calls Try.prog 38 #[.pointer (some ⟨B, o, none⟩)] w fun e w' => e = .returned (.bool true) ∧ w.setCell ⟨B, o, none⟩ (.bool false) = w' := by
  go_enter Try.func38, Try.ntmps38
  go_wp2_with fail
  go_ret
  exact ⟨rfl, rfl⟩

theorem due_fault {w : World} {B : Nat} {x : Dk} (h : DkAt w B x) : Calls Try.prog 38 #[.pointer (some ⟨B, 7, none⟩)] w fun e w' => e = .returned (.bool (dueD x.gs x.gl).1) ∧ DkAt w' B { x with gs := (dueD x.gs x.gl).2.1, gl := (dueD x.gs x.gl).2.2 } ∧ Only B w w' := by
  have ok := h.ok
  cases hs : x.gs with
  | false =>
    refine (due_off B 7 w (by rw [h.cell]; simp [Dk.cells, hs])).mono ?_
    rintro e w' ⟨rfl, rfl⟩
    refine ⟨rfl, ⟨?_, ⟨ok.cap1, ok.cap2, ok.used1, ok.used2, ok.fl1, ok.fl2, ok.gl1, ok.gl2, ok.len⟩⟩, Only.refl _ _⟩
    rw [h.blk]; simp [Dk.cells, dueD, hs]
  | true =>
    by_cases hl : 0 < x.gl
    · refine (due_wait B 7 x.gl w (by rw [h.cell]; simp [Dk.cells, hs]) (by rw [h.cell]; simp [Dk.cells]) (h.loose _) hl ok.gl2).mono ?_
      rintro e w' ⟨rfl, rfl⟩
      have := ok.gl2
      refine ⟨by simp [dueD, hl], h.set _ _ ⟨ok.cap1, ok.cap2, ok.used1, ok.used2, ok.fl1, ok.fl2, by simp [dueD, hl]; omega, by simp [dueD, hl]; omega, ok.len⟩ (by simp [Dk.cells, dueD, hl, hs]), Only.set _ _ _ _⟩
    · refine (due_now B 7 x.gl w (by rw [h.cell]; simp [Dk.cells, hs]) (by rw [h.cell]; simp [Dk.cells]) (h.loose _) hl).mono ?_
      rintro e w' ⟨rfl, rfl⟩
      refine ⟨by simp [dueD, hl], h.set _ _ ⟨ok.cap1, ok.cap2, ok.used1, ok.used2, ok.fl1, ok.fl2, by simpa [dueD, hl] using ok.gl1, by simpa [dueD, hl] using ok.gl2, ok.len⟩ (by simp [Dk.cells, dueD, hl]), Only.set _ _ _ _⟩
theorem due_fuse {w : World} {B : Nat} {x : Dk} (h : DkAt w B x) : Calls Try.prog 38 #[.pointer (some ⟨B, 5, none⟩)] w fun e w' => e = .returned (.bool (dueD x.fs x.fl).1) ∧ DkAt w' B { x with fs := (dueD x.fs x.fl).2.1, fl := (dueD x.fs x.fl).2.2 } ∧ Only B w w' := by
  have ok := h.ok
  cases hs : x.fs with
  | false =>
    refine (due_off B 5 w (by rw [h.cell]; simp [Dk.cells, hs])).mono ?_
    rintro e w' ⟨rfl, rfl⟩
    refine ⟨rfl, ⟨?_, ⟨ok.cap1, ok.cap2, ok.used1, ok.used2, ok.fl1, ok.fl2, ok.gl1, ok.gl2, ok.len⟩⟩, Only.refl _ _⟩
    rw [h.blk]; simp [Dk.cells, dueD, hs]
  | true =>
    by_cases hl : 0 < x.fl
    · refine (due_wait B 5 x.fl w (by rw [h.cell]; simp [Dk.cells, hs]) (by rw [h.cell]; simp [Dk.cells]) (h.loose _) hl ok.fl2).mono ?_
      rintro e w' ⟨rfl, rfl⟩
      have := ok.fl2
      refine ⟨by simp [dueD, hl], h.set _ _ ⟨ok.cap1, ok.cap2, ok.used1, ok.used2, by simp [dueD, hl]; omega, by simp [dueD, hl]; omega, ok.gl1, ok.gl2, ok.len⟩ (by simp [Dk.cells, dueD, hl, hs]), Only.set _ _ _ _⟩
    · refine (due_now B 5 x.fl w (by rw [h.cell]; simp [Dk.cells, hs]) (by rw [h.cell]; simp [Dk.cells]) (h.loose _) hl).mono ?_
      rintro e w' ⟨rfl, rfl⟩
      refine ⟨by simp [dueD, hl], h.set _ _ ⟨ok.cap1, ok.cap2, ok.used1, ok.used2, by simpa [dueD, hl] using ok.fl1, by simpa [dueD, hl] using ok.fl2, ok.gl1, ok.gl2, ok.len⟩ (by simp [Dk.cells, dueD, hl]), Only.set _ _ _ _⟩
end Go.Proofs.Ytoiggdcgfbjhpaa
