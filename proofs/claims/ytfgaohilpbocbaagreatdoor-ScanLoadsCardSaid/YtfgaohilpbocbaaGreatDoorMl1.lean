/-
  A disk's own block: its timers, what it asks ahead of a change, and what it tells of itself.
  What a disk asks ahead of a change, and what it tells of itself.
  Names that are ones, numbers modulo, and the i-th number of a list.
  Names that are ones.
  Tables of names: what they read as, and a change of names, done to one.
  Files, tables that may be nil, and how long the file is that a name means.
  A statement that leaves its order open and makes memory: its operations that only read are taken as soon as they may come up, its calls one by one; behind each call the knowledge of the world grows. Nothing of the program's dump is named here.
-/
import Derived.Test.YtfgaohilpbocbaaGreatDoorRows
import Derived.WalkKit
import Derived.ProofKit
import Derived.OpenShut
import Derived.Below
import Derived.WalkSpells
import Derived.WalkLawsBesides
import Derived.Outline
import Derived.Deep.QuietTactic
import Derived.BigQuiet
import Derived.Lib.Hide
import Derived.Lib.SmallJoins
import Derived.Deep.DeepCutAuto
import Derived.Deep.CutRange
import Derived.Deep.LoopGhost
import Derived.Maps.OwnSet
import Derived.Maps.RangeWalk
import Derived.Laws.OwnMore
import Derived.Deep.RegionHeld3
import Derived.Lib.QuietBelow
section
namespace Go.Proofs.YtfgaohilpbocbaaGreatDoor
open Go.ChangeShapes Go.WideShapes Go.ChangeAt Go.RowKit Go.Joins
set_option linter.unusedVariables false

/-- What a disk's struct holds, as Go has it. -/
structure Dk where
  cap : Int
  used : Int
  nm : Option Nat
  sf : Option Nat
  wa : Option Addr
  wl : Nat
  wc : Nat
  fs : Bool
  fl : Int
  gs : Bool
  gl : Int
  lost : Bool
def Dk.cells (x : Dk) : Array Value := #[.int .i64 x.cap, .int .i64 x.used, .map x.nm, .map x.sf, .slice x.wa x.wl x.wc, .bool x.fs, .int .i64 x.fl, .bool x.gs, .int .i64 x.gl, .bool x.lost]
/-- Numbers that Go can hold; timers are never below 0. -/
structure Dk.Ok (x : Dk) : Prop where
  cap1 : -9223372036854775808 ≤ x.cap
  cap2 : x.cap ≤ 9223372036854775807
  used1 : -9223372036854775808 ≤ x.used
  used2 : x.used ≤ 9223372036854775807
  fl1 : 0 ≤ x.fl
  fl2 : x.fl ≤ 9223372036854775807
  gl1 : 0 ≤ x.gl
  gl2 : x.gl ≤ 9223372036854775807
  len : x.wl ≤ 9223372036854775807
structure DkAt (w : World) (B : Nat) (x : Dk) : Prop where
  blk : w.heap[B]? = some (.cells x.cells 130 (0, 0))
  ok : x.Ok
theorem DkAt.cell {w : World} {B : Nat} {x : Dk} (h : DkAt w B x) (i : Nat) : w.cell? ⟨B, i, none⟩ = x.cells[i]? := cell_of_row w B i x.cells 130 (0, 0) h.blk
theorem DkAt.loose {w : World} {B : Nat} {x : Dk} (h : DkAt w B x) (i : Nat) : w.frozen? ⟨B, i, none⟩ = false := unfrozen_of_block h.blk i
theorem DkAt.lt {w : World} {B : Nat} {x : Dk} (h : DkAt w B x) : B < w.heap.size := (Array.getElem?_eq_some_iff.1 h.blk).1
/-- Nothing but block B has turned. -/
structure Only (B : Nat) (w w' : World) : Prop where
  os : w'.os = w.os
  tape : w'.tape = w.tape
  output : w'.output = w.output
  size : w'.heap.size = w.heap.size
  block : ∀ k, k ≠ B → w'.heap[k]? = w.heap[k]?
theorem Only.refl (B : Nat) (w : World) : Only B w w := ⟨rfl, rfl, rfl, rfl, fun _ _ => rfl⟩
theorem Only.trans {B : Nat} {a b c : World} (h : Only B a b) (k : Only B b c) : Only B a c := ⟨k.os.trans h.os, k.tape.trans h.tape, k.output.trans h.output, k.size.trans h.size, fun i hi => (k.block i hi).trans (h.block i hi)⟩
theorem Only.set (B i : Nat) (w : World) (v : Value) : Only B w (w.setCell ⟨B, i, none⟩ v) := ⟨rfl, rfl, rfl, by simp, fun k hk => heap_setCell_other w _ k v hk⟩
theorem Only.drew {B : Nat} {a w : World} (h : Only B a w) : Only B a w.drew := ⟨h.os, h.tape, h.output, h.size, h.block⟩
theorem Only.drewN {B : Nat} {a w : World} (h : Only B a w) (n : Nat) : Only B a (w.drewN n) := ⟨h.os, h.tape, h.output, h.size, h.block⟩
theorem DkAt.set {w : World} {B : Nat} {x y : Dk} (h : DkAt w B x) (i : Nat) (v : Value) (hy : y.Ok) (e : x.cells.setIfInBounds i v = y.cells) : DkAt (w.setCell ⟨B, i, none⟩ v) B y :=
  ⟨by rw [heap_setCell_same w B i x.cells _ v h.blk, e], hy⟩

/-- A timer is asked. -/
def dueD (s : Bool) (l : Int) : Bool × Bool × Int := if s then (if 0 < l then (false, true, l - 1) else (true, false, l)) else (false, s, l)

theorem due_off (B o : Nat) (w : World) (h0 : w.cell? ⟨B, o, none⟩ = some (.bool false)) : Calls Tryz.prog 92 #[.pointer (some ⟨B, o, none⟩)] w fun e w' => e = .returned (.bool false) ∧ w = w' := by
  go_enter Tryz.func92, Tryz.ntmps92
  go_wp2_with fail
  go_ret
  exact ⟨rfl, rfl⟩
theorem due_wait (B o : Nat) (l : Int) (w : World) (h0 : w.cell? ⟨B, o, none⟩ = some (.bool true)) (h1 : w.cell? ⟨B, o + 1, none⟩ = some (.int .i64 l)) (f1 : w.frozen? ⟨B, o + 1, none⟩ = false) (hl : 0 < l) (hl2 : l ≤ 9223372036854775807) :
    Calls Tryz.prog 92 #[.pointer (some ⟨B, o, none⟩)] w fun e w' => e = .returned (.bool false) ∧ w.setCell ⟨B, o + 1, none⟩ (.int .i64 (l - 1)) = w' := by
  go_enter Tryz.func92, Tryz.ntmps92
  go_wp2_with fail
  go_ret
  exact ⟨rfl, rfl⟩
theorem due_now (B o : Nat) (l : Int) (w : World) (h0 : w.cell? ⟨B, o, none⟩ = some (.bool true)) (h1 : w.cell? ⟨B, o + 1, none⟩ = some (.int .i64 l)) (f0 : w.frozen? ⟨B, o, none⟩ = false) (hl : ¬ 0 < l) :
    Calls Tryz.prog 92 #[.pointer (some ⟨B, o, none⟩)] w fun e w' => e = .returned (.bool true) ∧ w.setCell ⟨B, o, none⟩ (.bool false) = w' := by
  go_enter Tryz.func92, Tryz.ntmps92
  go_wp2_with fail
  go_ret
  exact ⟨rfl, rfl⟩

theorem due_fault {w : World} {B : Nat} {x : Dk} (h : DkAt w B x) : Calls Tryz.prog 92 #[.pointer (some ⟨B, 7, none⟩)] w fun e w' => e = .returned (.bool (dueD x.gs x.gl).1) ∧ DkAt w' B { x with gs := (dueD x.gs x.gl).2.1, gl := (dueD x.gs x.gl).2.2 } ∧ Only B w w' := by
  have ok := h.ok
  cases hs : x.gs with
  | false =>
    refine (due_off B 7 w (by rw [h.cell]; simp [Dk.cells, hs])).mono ?_
    rintro e w' ⟨rfl, rfl⟩
    refine ⟨rfl, ⟨?_, ⟨ok.cap1, ok.cap2, ok.used1, ok.used2, ok.fl1, ok.fl2, ok.gl1, ok.gl2, ok.len⟩⟩, Only.refl _ _⟩
    rw [h.blk]; simp [Dk.cells, dueD, hs]
  | true =>
    by_cases hl : 0 < x.gl
    · refine (due_wait B 7 x.gl w (by rw [h.cell]; simp [Dk.cells, hs]) (by rw [h.cell]; simp [Dk.cells]) (h.loose _) hl ok.gl2).mono ?_
      rintro e w' ⟨rfl, rfl⟩
      have := ok.gl2
      refine ⟨by simp [dueD, hl], h.set _ _ ⟨ok.cap1, ok.cap2, ok.used1, ok.used2, ok.fl1, ok.fl2, by simp [dueD, hl]; omega, by simp [dueD, hl]; omega, ok.len⟩ (by simp [Dk.cells, dueD, hl, hs]), Only.set _ _ _ _⟩
    · refine (due_now B 7 x.gl w (by rw [h.cell]; simp [Dk.cells, hs]) (by rw [h.cell]; simp [Dk.cells]) (h.loose _) hl).mono ?_
      rintro e w' ⟨rfl, rfl⟩
      refine ⟨by simp [dueD, hl], h.set _ _ ⟨ok.cap1, ok.cap2, ok.used1, ok.used2, ok.fl1, ok.fl2, by simpa [dueD, hl] using ok.gl1, by simpa [dueD, hl] using ok.gl2, ok.len⟩ (by simp [Dk.cells, dueD, hl]), Only.set _ _ _ _⟩
theorem due_fuse {w : World} {B : Nat} {x : Dk} (h : DkAt w B x) : Calls Tryz.prog 92 #[.pointer (some ⟨B, 5, none⟩)] w fun e w' => e = .returned (.bool (dueD x.fs x.fl).1) ∧ DkAt w' B { x with fs := (dueD x.fs x.fl).2.1, fl := (dueD x.fs x.fl).2.2 } ∧ Only B w w' := by
  have ok := h.ok
  cases hs : x.fs with
  | false =>
    refine (due_off B 5 w (by rw [h.cell]; simp [Dk.cells, hs])).mono ?_
    rintro e w' ⟨rfl, rfl⟩
    refine ⟨rfl, ⟨?_, ⟨ok.cap1, ok.cap2, ok.used1, ok.used2, ok.fl1, ok.fl2, ok.gl1, ok.gl2, ok.len⟩⟩, Only.refl _ _⟩
    rw [h.blk]; simp [Dk.cells, dueD, hs]
  | true =>
    by_cases hl : 0 < x.fl
    · refine (due_wait B 5 x.fl w (by rw [h.cell]; simp [Dk.cells, hs]) (by rw [h.cell]; simp [Dk.cells]) (h.loose _) hl ok.fl2).mono ?_
      rintro e w' ⟨rfl, rfl⟩
      have := ok.fl2
      refine ⟨by simp [dueD, hl], h.set _ _ ⟨ok.cap1, ok.cap2, ok.used1, ok.used2, by simp [dueD, hl]; omega, by simp [dueD, hl]; omega, ok.gl1, ok.gl2, ok.len⟩ (by simp [Dk.cells, dueD, hl, hs]), Only.set _ _ _ _⟩
    · refine (due_now B 5 x.fl w (by rw [h.cell]; simp [Dk.cells, hs]) (by rw [h.cell]; simp [Dk.cells]) (h.loose _) hl).mono ?_
      rintro e w' ⟨rfl, rfl⟩
      refine ⟨by simp [dueD, hl], h.set _ _ ⟨ok.cap1, ok.cap2, ok.used1, ok.used2, by simpa [dueD, hl] using ok.fl1, by simpa [dueD, hl] using ok.fl2, ok.gl1, ok.gl2, ok.len⟩ (by simp [Dk.cells, dueD, hl]), Only.set _ _ _ _⟩
end Go.Proofs.YtfgaohilpbocbaaGreatDoor
end

section
namespace Go.Proofs.YtfgaohilpbocbaaGreatDoor
open Go.ChangeShapes Go.WideShapes Go.ChangeAt Go.RowKit Go.Joins
set_option linter.unusedVariables false

/-- Fault and fuse are asked. -/
def passD (x : Dk) : Int × Dk :=
  if (dueD x.gs x.gl).1 then (10, { x with gs := (dueD x.gs x.gl).2.1, gl := (dueD x.gs x.gl).2.2 })
  else if (dueD x.fs x.fl).1 then (6, { x with gs := (dueD x.gs x.gl).2.1, gl := (dueD x.gs x.gl).2.2, fs := (dueD x.fs x.fl).2.1, fl := (dueD x.fs x.fl).2.2, lost := true })
  else (0, { x with gs := (dueD x.gs x.gl).2.1, gl := (dueD x.gs x.gl).2.2, fs := (dueD x.fs x.fl).2.1, fl := (dueD x.fs x.fl).2.2 })

theorem pass_any {w : World} {B : Nat} {x : Dk} (h : DkAt w B x) : Calls Tryz.prog 51 #[.pointer (some ⟨B, 0, none⟩)] w fun e w' => e = .returned (.int .i64 (passD x).1) ∧ DkAt w' B (passD x).2 ∧ Only B w w' := by
  have H := Lib.hid h
  have hg := due_fault h
  clear h
  cases h1 : (dueD x.gs x.gl).1 with
  | true =>
    have HP : Hid (passD x = (10, { x with gs := (dueD x.gs x.gl).2.1, gl := (dueD x.gs x.gl).2.2 })) := by show _ = _; simp [passD, h1]
    rw [h1] at hg
    generalize ({ x with gs := (dueD x.gs x.gl).2.1, gl := (dueD x.gs x.gl).2.2 } : Dk) = y at *
    go_enter Tryz.func51, Tryz.ntmps51
    go_wp2_with fail
    (with_reducible refine hg.mono ?_)
    rintro e w1 ⟨rfl, d1, o1⟩
    have H1 := Lib.hid (And.intro d1 o1)
    clear hg d1 o1
    go_wp2_with fail
    go_ret
    rw [HP.out]
    exact ⟨rfl, H1.out.1, H1.out.2⟩
  | false =>
    rw [h1] at hg
    have hf : ∀ w1, DkAt w1 B { x with gs := (dueD x.gs x.gl).2.1, gl := (dueD x.gs x.gl).2.2 } → _ := fun w1 h => due_fuse h
    have HF := Lib.hid hf
    clear hf
    cases h2 : (dueD x.fs x.fl).1 with
    | true =>
      have HP : Hid (passD x = (6, { x with gs := (dueD x.gs x.gl).2.1, gl := (dueD x.gs x.gl).2.2, fs := (dueD x.fs x.fl).2.1, fl := (dueD x.fs x.fl).2.2, lost := true })) := by show _ = _; simp [passD, h1, h2]
      go_enter Tryz.func51, Tryz.ntmps51
      go_wp2_with fail
      (with_reducible refine hg.mono ?_)
      rintro e w1 ⟨rfl, d1, o1⟩
      have O1 := Lib.hid o1
      have hf := HF.out w1 d1
      simp only [h2] at hf
      clear hg d1 o1
      go_wp2_with fail
      (with_reducible refine hf.mono ?_)
      rintro e w2 ⟨rfl, d2, o2⟩
      have O2 := Lib.hid (O1.out.trans o2)
      have D2 := Lib.hid d2
      have c9 := d2.cell 9
      have f9 := d2.loose 9
      have ok := d2.ok
      have D3 : Hid (DkAt (w2.setCell ⟨B, 9, none⟩ (.bool true)) B { x with gs := (dueD x.gs x.gl).2.1, gl := (dueD x.gs x.gl).2.2, fs := (dueD x.fs x.fl).2.1, fl := (dueD x.fs x.fl).2.2, lost := true }) :=
        d2.set 9 (.bool true) ⟨ok.cap1, ok.cap2, ok.used1, ok.used2, ok.fl1, ok.fl2, ok.gl1, ok.gl2, ok.len⟩ (by simp [Dk.cells])
      have O3 : Hid (Only B w (w2.setCell ⟨B, 9, none⟩ (.bool true))) := O2.out.trans (Only.set _ _ _ _)
      simp only [Dk.cells] at c9
      simp at c9
      clear hf d2 o2 ok
      go_wp2_with fail
      go_ret
      rw [HP.out]
      exact ⟨rfl, D3.out, O3.out⟩
    | false =>
      have HP : Hid (passD x = (0, { x with gs := (dueD x.gs x.gl).2.1, gl := (dueD x.gs x.gl).2.2, fs := (dueD x.fs x.fl).2.1, fl := (dueD x.fs x.fl).2.2 })) := by show _ = _; simp [passD, h1, h2]
      go_enter Tryz.func51, Tryz.ntmps51
      go_wp2_with fail
      (with_reducible refine hg.mono ?_)
      rintro e w1 ⟨rfl, d1, o1⟩
      have O1 := Lib.hid o1
      have hf := HF.out w1 d1
      simp only [h2] at hf
      clear hg d1 o1
      go_wp2_with fail
      (with_reducible refine hf.mono ?_)
      rintro e w2 ⟨rfl, d2, o2⟩
      have O2 := Lib.hid (O1.out.trans o2)
      have D2 := Lib.hid d2
      clear hf d2 o2
      go_wp2_with fail
      go_ret
      rw [HP.out]
      exact ⟨rfl, D2.out, O2.out⟩

theorem power_any {w : World} {B : Nat} {x : Dk} (h : DkAt w B x) : Calls Tryz.prog 49 #[.pointer (some ⟨B, 0, none⟩)] w fun e w' => e = .returned (.int .i64 (if x.lost then 6 else 0)) ∧ w = w' := by
  have c9 : w.cell? ⟨B, 9, none⟩ = some (.bool x.lost) := by rw [h.cell]; simp [Dk.cells]
  clear h
  cases hl : x.lost with
  | true =>
    rw [hl] at c9
    clear hl
    go_enter Tryz.func49, Tryz.ntmps49
    go_wp2_with fail
    go_ret
    exact ⟨rfl, rfl⟩
  | false =>
    rw [hl] at c9
    clear hl
    go_enter Tryz.func49, Tryz.ntmps49
    go_wp2_with fail
    go_ret
    exact ⟨rfl, rfl⟩
theorem lost_any {w : World} {B : Nat} {x : Dk} (h : DkAt w B x) : Calls Tryz.prog 53 #[.pointer (some ⟨B, 0, none⟩)] w fun e w' => e = .returned (.bool x.lost) ∧ w = w' := by
  have c9 : w.cell? ⟨B, 9, none⟩ = some (.bool x.lost) := by rw [h.cell]; simp [Dk.cells]
  clear h
  go_enter Tryz.func53, Tryz.ntmps53
  go_wp2_with fail
  go_ret
  exact ⟨rfl, rfl⟩
theorem waits_any {w : World} {B : Nat} {x : Dk} (h : DkAt w B x) : Calls Tryz.prog 26 #[.pointer (some ⟨B, 0, none⟩)] w fun e w' => e = .returned (.int .i64 (x.wl : Int)) ∧ w = w' := by
  have c4 : w.cell? ⟨B, 4, none⟩ = some (.slice x.wa x.wl x.wc) := by rw [h.cell]; simp [Dk.cells]
  have hl := h.ok.len
  clear h
  go_enter Tryz.func26, Tryz.ntmps26
  go_wp2_with fail
  go_ret
  exact ⟨rfl, rfl⟩
theorem room_any {w : World} {B : Nat} {x : Dk} (h : DkAt w B x) : Calls Tryz.prog 25 #[.pointer (some ⟨B, 0, none⟩)] w fun e w' => e = .returned (.int .i64 (wrap64 (x.cap - x.used))) ∧ Only B w w' ∧ w'.heap = w.heap := by
  have c0 : w.cell? ⟨B, 0, none⟩ = some (.int .i64 x.cap) := by rw [h.cell]; simp [Dk.cells]
  have c1 : w.cell? ⟨B, 1, none⟩ = some (.int .i64 x.used) := by rw [h.cell]; simp [Dk.cells]
  clear h
  go_enter Tryz.func25, Tryz.ntmps25
  go_wp2_with fail
  go_quiet (fail)
  go_wp2_with fail
  go_ret
  exact ⟨rfl, (Only.refl B w).drewN _, rfl⟩

end Go.Proofs.YtfgaohilpbocbaaGreatDoor
end

section
namespace Go.Proofs.YtfgaohilpbocbaaGreatDoor
open Go.ChangeShapes Go.WideShapes Go.ChangeAt Go.RowKit Go.Joins
set_option linter.unusedVariables false

/-- n modulo m, never below 0. -/
def modD (n m : Int) : Int := if n.tmod m < 0 then n.tmod m + m else n.tmod m
theorem modD_range {n m : Int} (hm : 0 < m) : 0 ≤ modD n m ∧ modD n m < m := by
  have h1 := Int.tmod_lt_of_pos n hm
  have h2 : -m < n.tmod m := by
    have h3 := Int.tmod_lt_of_pos (-n) hm
    rw [Int.neg_tmod] at h3
    omega
  unfold modD
  split <;> omega

/-- A slice of ints that reads as ks. -/
structure Ks (w : World) (a : Option Addr) (cap : Nat) (ks : List Int) : Prop where
  rng : ∀ x ∈ ks, -9223372036854775808 ≤ x ∧ x ≤ 9223372036854775807
  len : ks.length ≤ cap
  most : cap ≤ maxLen
  none : a = none → ks = []
  here : ks = [] ∨ ∃ b off, a = some ⟨b, off, Option.none⟩ ∧ ∀ i (h : i < ks.length), w.cell? ⟨b, off + i, Option.none⟩ = some (.int .i64 ks[i])
def pickD (ks : List Int) (i : Nat) : Int := ks.getD (i % ks.length) 0

end Go.Proofs.YtfgaohilpbocbaaGreatDoor
end

section
namespace Go.Proofs.YtfgaohilpbocbaaGreatDoor
open Go.ChangeShapes Go.WideShapes Go.ChangeAt Go.RowKit Go.Joins
set_option linter.unusedVariables false

/-- A name of 1 to 60 bytes, each from ! to ~. -/
def rightB (s : ByteArray) : Bool := decide (1 ≤ s.size) && decide (s.size ≤ 60) && (List.range s.size).all fun i => decide (33 ≤ (s.data.toList.getD i 0).toNat) && decide ((s.data.toList.getD i 0).toNat ≤ 126)
theorem rightB_iff {s : ByteArray} : rightB s = true ↔ 1 ≤ s.size ∧ s.size ≤ 60 ∧ ∀ i, i < s.size → 33 ≤ (s.data.toList.getD i 0).toNat ∧ (s.data.toList.getD i 0).toNat ≤ 126 := by
  simp [rightB, and_assoc]

theorem byte_at {s : ByteArray} {k : Nat} (h : k < s.size) : (s.data.toList.getD k 0).toNat = s[k].toNat := by
  rw [List.getD_eq_getElem?_getD, List.getElem?_eq_getElem (show k < s.data.toList.length from by simpa using h)]
  rfl

set_option maxHeartbeats 1000000 in
theorem right_any (s : ByteArray) (hs : s.size ≤ 9223372036854775807) (w : World) : Calls Tryz.prog 50 #[.string s] w fun e w' => e = .returned (.bool (rightB s)) ∧ w = w' := by
  by_cases h1 : s.size < 1
  · have HF : Hid (rightB s = false) := by
      show _ = _
      rw [Bool.eq_false_iff]; intro h; have := (rightB_iff.1 h).1; omega
    have hd : decide ((s.size : Int) < 1) = true := by simp; omega
    go_enter Tryz.func50, Tryz.ntmps50
    go_wp2_with fail
    go_ret
    rw [HF.out]
    exact ⟨rfl, rfl⟩
  · have hd : decide ((s.size : Int) < 1) = false := by simp; omega
    by_cases h2 : 60 < s.size
    · have HF : Hid (rightB s = false) := by
        show _ = _
        rw [Bool.eq_false_iff]; intro h; have := (rightB_iff.1 h).2.1; omega
      have hd2 : decide ((60 : Int) < (s.size : Int)) = true := by simp; omega
      go_enter Tryz.func50, Tryz.ntmps50
      go_wp2_with fail
      go_ret
      rw [HF.out]
      exact ⟨rfl, rfl⟩
    · have hd2 : decide ((60 : Int) < (s.size : Int)) = false := by simp; omega
      have hs60 : (s.size : Int) ≤ 60 := by omega
      go_enter Tryz.func50, Tryz.ntmps50
      go_wp2_with fail
      go_loop [14] (fun i => ∃ k : Nat, k ≤ s.size ∧ i = .int .i64 k ∧ Hid (∀ j, j < k → 33 ≤ (s.data.toList.getD j 0).toNat ∧ (s.data.toList.getD j 0).toNat ≤ 126)) (fun i => s.size - (intOf i).toNat)
      case atStart => exact ⟨0, by omega, rfl, fun j h => by omega⟩
      case round =>
        obtain ⟨k, hk, rfl, HT⟩ := hrel
        by_cases hlt : k < s.size
        · have hltz : (k : Int) < (s.size : Int) := by omega
          have hk0 : (0 : Int) ≤ (k : Int) := by omega
          have HG : Hid ((s.data.toList.getD k 0).toNat = s[k].toNat) := byte_at hlt
          by_cases h3 : s[k].toNat < 33
          · have HF : Hid (rightB s = false) := by
              show _ = _
              rw [Bool.eq_false_iff]; intro h; have := ((rightB_iff.1 h).2.2 k hlt).1; rw [HG.out] at this; omega
            have hd3 : decide ((s[k].toNat : Int) < 33) = true := by simp; omega
            go_wp2_with fail
            go_ret
            rw [HF.out]
            exact ⟨rfl, rfl⟩
          · have hd3 : decide ((s[k].toNat : Int) < 33) = false := by simp; omega
            by_cases h4 : 126 < s[k].toNat
            · have HF : Hid (rightB s = false) := by
                show _ = _
                rw [Bool.eq_false_iff]; intro h; have := ((rightB_iff.1 h).2.2 k hlt).2; rw [HG.out] at this; omega
              have hd4 : decide ((126 : Int) < (s[k].toNat : Int)) = true := by simp; omega
              go_wp2_with fail
              go_ret
              rw [HF.out]
              exact ⟨rfl, rfl⟩
            · have hd4 : decide ((126 : Int) < (s[k].toNat : Int)) = false := by simp; omega
              have HN : Hid (∀ j, j < k + 1 → 33 ≤ (s.data.toList.getD j 0).toNat ∧ (s.data.toList.getD j 0).toNat ≤ 126) := fun j hj => by
                by_cases e : j = k
                · subst e; rw [HG.out]; omega
                · exact HT.out j (by omega)
              go_wp2_with fail
              go_round
              case rel => exact ⟨k + 1, by omega, by go_num, HN⟩
              case measure => simp [intOf]; omega
        · obtain rfl : k = s.size := by omega
          have hltz : ¬ (s.size : Int) < (s.size : Int) := by omega
          have HF : Hid (rightB s = true) := by
            show _ = _
            exact rightB_iff.2 ⟨by omega, by omega, HT.out⟩
          go_wp2_with fail
          go_ret
          rw [HF.out]
          exact ⟨rfl, rfl⟩
end Go.Proofs.YtfgaohilpbocbaaGreatDoor
end

section
namespace Go.Proofs.YtfgaohilpbocbaaGreatDoor
open Go.ChangeShapes Go.WideShapes Go.ChangeAt Go.RowKit Go.Joins
set_option linter.unusedVariables false

abbrev DM := DataW Unit
/-- A file's number; -1: none. -/
def idD (i : Int) : DM := .lit (.int .i64 i)
def keyD (s : ByteArray) : Lit := .string s.data.toList
/-- How a pointer to a file reads, where ι tells the files' numbers. -/
def fileR (ι : Nat → Option Nat) (v : Value) : Option (DM × List MemPlace) :=
  match v with
  | .pointer none => some (idD (-1), [])
  | .pointer (some a) => if a.off = 0 ∧ a.spot = none then (ι a.block).map (fun (i : Nat) => (idD (i : Int), ([] : List MemPlace))) else none
  | _ => none
theorem fileR_inv {ι : Nat → Option Nat} {v : Value} {z : DM × List MemPlace} (h : fileR ι v = some z) : (v = .pointer none ∧ z = (idD (-1), [])) ∨ ∃ b i, v = .pointer (some ⟨b, 0, none⟩) ∧ ι b = some i ∧ z = (idD (i : Int), []) := by
  unfold fileR at h
  split at h
  · cases h; exact .inl ⟨rfl, rfl⟩
  · rename_i a
    split at h
    · rename_i hc
      obtain ⟨i, hi, rfl⟩ := Option.map_eq_some_iff.1 h
      obtain ⟨b, o, s⟩ := a
      obtain ⟨rfl, rfl⟩ := hc
      exact .inr ⟨b, i, rfl, hi, rfl⟩
    · cases h
  · cases h
theorem idD_inj {i j : Int} (h : idD i = idD j) : i = j := by
  unfold idD at h
  simpa using h

/-- A change of names: made: the new file's number, or -1. -/
structure Chg where
  made : Int
  src : ByteArray
  dst : ByteArray
def Chg.did (c : Chg) (D : DM) : DM :=
  let f := if c.made = -1 then D.atKey (keyD c.src) (idD (-1)) else idD c.made
  let D1 := if c.made = -1 then D.del (keyD c.src) else D
  if c.dst.size = 0 then D1 else D1.put (keyD c.dst) f
/-- As Go has it. -/
def Chg.val (c : Chg) (p : Value) : Value := .agg #[p, .string c.src, .string c.dst]

theorem key_string (s : ByteArray) (hs : s.size ≤ maxLen) : keyOf Tryz.prog 9 (.string s) = some (keyD s) := by
  simp [keyOf, mapKey, Tryz.underlying9, keyD, hs]
theorem keyedS : Maps.Keyed Tryz.prog 9 := Maps.string_keyed Tryz.underlying9

theorem bytes_nil {s : ByteArray} : s = ⟨#[]⟩ ↔ s.size = 0 := by
  obtain ⟨d⟩ := s
  constructor
  · intro h; cases h; rfl
  · intro h
    have : d.size = 0 := h
    have : d = #[] := Array.eq_empty_of_size_eq_zero this
    rw [this]

theorem bytes_some {s : ByteArray} (h : ¬ s.size = 0) : s.toList.isEmpty = false := by
  rw [ByteArray.toList_eq]
  cases hl : s.data.toList with
  | nil => exact absurd (show s.data.size = 0 by rw [← Array.length_toList, hl]; rfl) h
  | cons _ _ => rfl
set_option maxRecDepth 100000 in
set_option maxHeartbeats 1000000 in
theorem apply_any (ι : Nat → Option Nat) (b n : Nat) (D : DM) (c : Chg) (p : Value) (w : World) (hp : fileR ι p = some (idD c.made, [])) (hs1 : c.src.size ≤ maxLen) (hs2 : c.dst.size ≤ maxLen) (hn : n < maxLen) (hown : w.ownsMap Tryz.prog 9 (fileR ι) b n D) :
    Calls Tryz.prog 94 #[c.val p, .map (some b)] w fun e w' => e = .returned (.tuple #[]) ∧ w'.ownsMap Tryz.prog 9 (fileR ι) b (n + 1) (c.did D) ∧ w.grownBy w' (some b) := by
  obtain ⟨made, src, dst⟩ := c
  simp only at hp hs1 hs2
  have k1 := key_string src hs1
  have k2 := key_string dst hs2
  have HZ : Hid (∀ w : World, (zeroValue 132).run Tryz.prog w = .ok (.pointer none) w) := fun w => by kernel_rfl
  have HN := Lib.hid hn
  have HW : Hid (w.ownsMap Tryz.prog 9 (fileR ι) b n D) := hown
  have HK1 := Lib.hid k1
  have HK2 := Lib.hid k2
  clear hown k1 k2 hs1 hs2 hn
  rcases fileR_inv hp with ⟨rfl, he⟩ | ⟨bf, i, rfl, hi, he⟩
  · have hm : made = -1 := idD_inj (congrArg Prod.fst he)
    subst hm
    unfold Chg.val
    go_enter Tryz.func94, Tryz.ntmps94
    go_upto_region 3 with fail
    have hb := HW.out.lt
    have HA := Lib.hid (HW.out.alloc (.cells #[.pointer none, .string src, .string dst] 137))
    have b1 : (w.alloc (.cells #[.pointer none, .string src, .string dst] 137)).cell? ⟨w.heap.size, 1, none⟩ = some (.string src) := by simp
    have b2 : (w.alloc (.cells #[.pointer none, .string src, .string dst] 137)).cell? ⟨w.heap.size, 2, none⟩ = some (.string dst) := by simp
    have HG : Hid (w.grownBy (w.alloc (.cells #[.pointer none, .string src, .string dst] 137)) (some b)) := World.grownBy_alloc _ _ _
    generalize w.alloc (.cells #[.pointer none, .string src, .string dst] 137) = wa at *
    have hne : w.heap.size ≠ b := by omega
    generalize w.heap.size = g at *
    obtain ⟨v, ps, hrun, hv⟩ := HA.out.lookup keyedS Tryz.underlying125 (HZ.out wa) (zd := idD (-1)) (zp := []) rfl HK1.out
    have HV := Lib.hid hv
    clear hv hb
    go_upto_region 5 with (at_delete; refine wpList_delete_own _ rfl _ _ _ _ rfl _ keyedS Tryz.underlying125 _ b n D rfl HA.out _ _ rfl HK1.out ?_; intro w1 hown1 hturn1)
    have H1 := Lib.hid hown1
    have HG1 : Hid (w.grownBy w1 (some b)) := HG.out.trans hturn1.grown
    have b3 := hturn1.grown.cell b2 (fun e => hne (Option.some.inj e))
    clear hown1 hturn1 HA b1 b2 hrun HG
    by_cases hto : dst.size = 0
    · have hz : dst = ⟨#[]⟩ := bytes_nil.2 hto
      have HD : Hid (Chg.did ⟨-1, src, dst⟩ D = D.del (keyD src)) := by show _ = _; simp [Chg.did, hto]
      subst hz
      go_wp2_with fail
      go_end0
      rw [HD.out]
      exact ⟨rfl, H1.out.mono (by omega), HG1.out⟩
    · have hz : dst.toList.isEmpty = false := bytes_some hto
      have HD : Hid (Chg.did ⟨-1, src, dst⟩ D = (D.del (keyD src)).put (keyD dst) (D.atKey (keyD src) (idD (-1)))) := by show _ = _; simp [Chg.did, hto]
      go_wp2_with (at_mapUpdate; refine wpList_mapUpdate_own _ rfl _ _ _ _ rfl _ _ keyedS Tryz.underlying125 _ b n _ rfl H1.out HN.out _ _ _ rfl rfl HK2.out _ _ HV.out ?_; intro w2 hown2 hgrow2)
      go_end0
      rw [HD.out]
      exact ⟨rfl, hown2, HG1.out.trans hgrow2⟩
  · have hm : made = (i : Int) := idD_inj (congrArg Prod.fst he)
    subst hm
    have HV : Hid (fileR ι (.pointer (some ⟨bf, 0, none⟩)) = some (idD (i : Int), [])) := hp
    have hm1 : ¬ (i : Int) = -1 := by omega
    clear hp he hi
    unfold Chg.val
    go_enter Tryz.func94, Tryz.ntmps94
    go_upto_region 5 with fail
    have hb := HW.out.lt
    have HA := Lib.hid (HW.out.alloc (.cells #[.pointer (some ⟨bf, 0, none⟩), .string src, .string dst] 137))
    have b2 : (w.alloc (.cells #[.pointer (some ⟨bf, 0, none⟩), .string src, .string dst] 137)).cell? ⟨w.heap.size, 2, none⟩ = some (.string dst) := by simp
    have HG : Hid (w.grownBy (w.alloc (.cells #[.pointer (some ⟨bf, 0, none⟩), .string src, .string dst] 137)) (some b)) := World.grownBy_alloc _ _ _
    generalize w.alloc (.cells #[.pointer (some ⟨bf, 0, none⟩), .string src, .string dst] 137) = wa at *
    generalize w.heap.size = g at *
    clear hb
    by_cases hto : dst.size = 0
    · have hz : dst = ⟨#[]⟩ := bytes_nil.2 hto
      have HD : Hid (Chg.did ⟨i, src, dst⟩ D = D) := by show _ = _; simp [Chg.did, hto, hm1]
      subst hz
      go_wp2_with fail
      go_end0
      rw [HD.out]
      exact ⟨rfl, HA.out.mono (by omega), HG.out⟩
    · have hz : dst.toList.isEmpty = false := bytes_some hto
      have HD : Hid (Chg.did ⟨i, src, dst⟩ D = D.put (keyD dst) (idD i)) := by show _ = _; simp [Chg.did, hto, hm1]
      go_wp2_with (at_mapUpdate; refine wpList_mapUpdate_own _ rfl _ _ _ _ rfl _ _ keyedS Tryz.underlying125 _ b n _ rfl HA.out HN.out _ _ _ rfl rfl HK2.out _ _ HV.out ?_; intro w2 hown2 hgrow2)
      go_end0
      rw [HD.out]
      exact ⟨rfl, hown2, HG.out.trans hgrow2⟩
end Go.Proofs.YtfgaohilpbocbaaGreatDoor
end

section
namespace Go.Proofs.YtfgaohilpbocbaaGreatDoor
open Go.ChangeShapes Go.WideShapes Go.ChangeAt Go.RowKit Go.Joins
set_option linter.unusedVariables false

def byteD (n : Nat) : Value := .int .u8 (n : Int)
/-- A file: its bytes, and how many of them are safe. -/
structure Fl where
  bytes : List Nat
  safe : Nat
/-- Block b is this file; its bytes lie in their own block rb. -/
structure FileAt (w : World) (b : Nat) (rb : Option Nat) (f : Fl) : Prop where
  byte : ∀ n ∈ f.bytes, n < 256
  size : f.bytes.length ≤ 1000000
  safe : f.safe ≤ f.bytes.length
  here : ∃ v, v.ownBlock = rb ∧ w.ownsRow 0 5 1 v f.bytes.length (f.bytes.map byteD) ∧ w.heap[b]? = some (.cells #[v, .int .i64 (f.safe : Int)] 135 (0, 0))
theorem own_shape {w : World} {B e s n : Nat} {v : Value} {xs : List Value} (h : w.ownsRow B e s v n xs) : ∃ a cap, v = .slice a n cap ∧ cap ≤ maxLen ∧ n ≤ cap := by
  rcases h.2 with ⟨rfl, rfl⟩ | ⟨g, cap, cur, rfl, _, _, h1, h2, _⟩
  · exact ⟨none, 0, rfl, Nat.zero_le _, Nat.le_refl _⟩
  · exact ⟨_, cap, rfl, h2, h1⟩

/-- A table of names, which may be nil. -/
def Tab (ι : Nat → Option Nat) (w : World) (t : Option Nat) (n : Nat) (D : DM) : Prop := (t = none ∧ D = .map []) ∨ ∃ b, t = some b ∧ w.ownsMap Tryz.prog 9 (fileR ι) b n D
theorem atKey_nil (k : Lit) (z : DM) : DataW.atKey (.map [] : DM) k z = z := rfl
theorem Tab.look {ι : Nat → Option Nat} {w : World} {t : Option Nat} {n : Nat} {D : DM} (h : Tab ι w t n D) {s : ByteArray} (hs : s.size ≤ maxLen) :
    ∃ v ps, (Instr.lookup 125 (.map t) (.string s) false).run Tryz.prog w = .ok v w ∧ fileR ι v = some (D.atKey (keyD s) (idD (-1)), ps) := by
  have hz : (zeroValue 132).run Tryz.prog w = .ok (.pointer none) w := by kernel_rfl
  rcases h with ⟨rfl, rfl⟩ | ⟨b, rfl, ho⟩
  · exact ⟨.pointer none, [], by rw [Maps.look_nil false keyedS Tryz.underlying125 hz (key_string s hs)]; rfl, rfl⟩
  · exact ho.lookup keyedS Tryz.underlying125 hz (zd := idD (-1)) (zp := []) rfl (key_string s hs)

/-- The number that a name means, -1 of none. -/
def numD (D : DM) (s : ByteArray) : Int := match D.atKey (keyD s) (idD (-1)) with | .lit (.int .i64 i) => i | _ => -1
def sizeD (F : Nat → Fl) (D : DM) (s : ByteArray) : Int := if numD D s = -1 then 0 else ((F (numD D s).toNat).bytes.length : Int)
/-- All files that ι tells are there. -/
def Files (ι : Nat → Option Nat) (rb : Nat → Option Nat) (F : Nat → Fl) (w : World) : Prop := ∀ b i, ι b = some i → FileAt w b (rb i) (F i)

theorem Tab.num {ι : Nat → Option Nat} {w : World} {t : Option Nat} {n : Nat} {D : DM} (h : Tab ι w t n D) {s : ByteArray} (hs : s.size ≤ maxLen) :
    (numD D s = -1 ∧ (Instr.lookup 125 (.map t) (.string s) false).run Tryz.prog w = .ok (.pointer none) w) ∨
    ∃ b i, ι b = some i ∧ numD D s = (i : Int) ∧ (Instr.lookup 125 (.map t) (.string s) false).run Tryz.prog w = .ok (.pointer (some ⟨b, 0, none⟩)) w := by
  obtain ⟨v, ps, hr, hv⟩ := h.look hs
  rcases fileR_inv hv with ⟨rfl, e⟩ | ⟨b, i, rfl, hi, e⟩
  · refine .inl ⟨?_, hr⟩
    unfold numD
    rw [show D.atKey (keyD s) (idD (-1)) = idD (-1) from congrArg Prod.fst e]
    rfl
  · refine .inr ⟨b, i, hi, ?_, hr⟩
    unfold numD
    rw [show D.atKey (keyD s) (idD (-1)) = idD (i : Int) from congrArg Prod.fst e]
    rfl

set_option maxRecDepth 100000 in
theorem size_any {ι rb : Nat → Option Nat} {F : Nat → Fl} {w : World} {t : Option Nat} {n : Nat} {D : DM} (h : Tab ι w t n D) (hf : Files ι rb F w) {s : ByteArray} (hs : s.size ≤ maxLen) :
    Calls Tryz.prog 93 #[.map t, .string s] w fun e w' => e = .returned (.int .i64 (sizeD F D s)) ∧ w = w' := by
  rcases h.num hs with ⟨h1, hr⟩ | ⟨b, i, hi, h1, hr⟩
  · have HV : Hid (sizeD F D s = 0) := by show _ = _; simp [sizeD, h1]
    clear h hf hs h1
    go_enter Tryz.func93, Tryz.ntmps93
    go_wp2_with fail
    go_ret
    rw [HV.out]
    exact ⟨rfl, rfl⟩
  · have HV : Hid (sizeD F D s = ((F i).bytes.length : Int)) := by
      show _ = _
      have : ¬ (i : Int) = -1 := by omega
      simp [sizeD, h1, this]
    obtain ⟨v, -, hv, hb⟩ := (hf b i hi).here
    obtain ⟨a, cap, rfl, -, -⟩ := own_shape hv
    have hsz := (hf b i hi).size
    have c0 : w.cell? ⟨b, 0, none⟩ = some (.slice a (F i).bytes.length cap) := by rw [cell_of_row w b 0 _ _ (0, 0) hb]; rfl
    clear h hf hs h1 hi hv hb
    generalize (F i).bytes.length = q at *
    go_enter Tryz.func93, Tryz.ntmps93
    go_wp2_with fail
    go_ret
    rw [HV.out]
    exact ⟨rfl, rfl⟩
end Go.Proofs.YtfgaohilpbocbaaGreatDoor
end

section
namespace Go.Proofs.YtfgaohilpbocbaaGreatDoor
open Go.RowKit Go.Sort
set_option linter.unusedVariables false

/-- An operation that yields a value, if it yields anything. -/
def plainOp : Op → Bool
  | .move _ | .assign _ | .pick .. | .nilCheck .. | .load .. | .binOp .. | .unOp .. | .convert .. | .makeInterface .. | .slice .. | .fieldAddr .. | .field .. | .indexAddr .. | .index .. | .lookup .. | .extract .. => true
  | .call c => match c.callee with | .builtin .len | .builtin .min | .builtin .max => true | _ => false
  | _ => false

section
variable {P : Program} {ops : Array Oper} {Q : Exit → Act → World → Prop} {C : World → Prop}

theorem run_value {s : Sem Value} {w w' : World} {n : Next} (h : (do pure (Next.value (← s)) : Sem Next).run P w = .ok n w') : ∃ v, n = .value v := by
  rw [Sem.run_bind] at h
  cases hs : s.run P w with
  | ok x w1 =>
    rw [hs] at h
    simp only [Result.andThen, Sem.run_pure] at h
    cases h
    exact ⟨_, rfl⟩
  | halt x w1 =>
    rw [hs] at h
    simp [Result.andThen] at h

theorem val_bind {β : Type} {s : Sem β} {f : β → Sem Next} (hf : ∀ b w1 w2 n, (f b).run P w1 = .ok n w2 → ∃ v, n = .value v) {w w' : World} {n : Next} (h : (s >>= f).run P w = .ok n w') : ∃ v, n = .value v := by
  rw [Sem.run_bind] at h
  cases hs : s.run P w with
  | ok x w1 =>
    rw [hs] at h
    exact hf x w1 w' n h
  | halt x w1 =>
    rw [hs] at h
    simp [Result.andThen] at h
theorem val_pure {v : Value} {w w' : World} {n : Next} (h : (pure (Next.value v) : Sem Next).run P w = .ok n w') : ∃ v, n = .value v := by
  rw [Sem.run_pure] at h; cases h; exact ⟨_, rfl⟩

theorem plain_value {o : Oper} {ρ : Operand → Value} {w w' : World} {n : Next} (hp : plainOp o.op = true) (h : (execOp ρ o).run P w = .ok n w') : ∃ v, n = .value v := by
  obtain ⟨dst, op, type, pos, after, guard⟩ := o
  cases op <;> simp only [plainOp, Bool.false_eq_true] at hp <;> simp only [execOp] at h
  case move x => rw [Sem.run_pure] at h; cases h; exact ⟨_, rfl⟩
  case assign x => rw [Sem.run_pure] at h; cases h; exact ⟨_, rfl⟩
  case nilCheck x =>
    split at h
    · simp [runtimePanic, goPanic, go_sem] at h
    · simp [runtimePanic, goPanic, go_sem] at h
    · simp [runtimePanic, goPanic, go_sem] at h
    · split at h
      · simp [runtimePanic, goPanic, go_sem] at h
      · refine val_bind (fun b w1 w2 n h => ?_) h
        refine val_bind (fun b w1 w2 n h => ?_) h
        split at h
        · exact val_bind (fun b w1 w2 n h => val_pure h) h
        · exact val_pure h
      · exact val_pure h
    · exact val_pure h
  case call c =>
    cases hc : c.callee <;> simp only [hc, Bool.false_eq_true] at hp
    rename_i b
    cases b <;> simp only [Bool.false_eq_true] at hp
    all_goals simp only [resolve, hc] at h
    all_goals first | exact run_value (s := Builtin.len_ _ _ _) h | exact run_value (s := Builtin.min_ _ _ _) h | exact run_value (s := Builtin.max_ _ _ _) h
  case pick x y z =>
    rw [Sem.run_bind] at h
    cases hs : (asBool (ρ x)).run P w with
    | ok q w1 =>
      rw [hs] at h
      simp only [Result.andThen, Sem.run_pure] at h
      cases h
      exact ⟨_, rfl⟩
    | halt q w1 =>
      rw [hs] at h
      simp [Result.andThen] at h
  all_goals exact run_value h

/-- The operations of this list may come up one behind the other, each apart from all that don't wait for it, each plain. -/
def takesB (ops : Array Oper) : List Nat → Array Bool → Bool
  | [], _ => true
  | i :: is, listed => (Region.ready .any ops listed).contains i && Region.free .any ops listed i && ((ops[i]?).map fun o => plainOp o.op).getD false && takesB ops is (listed.setIfInBounds i true)
def marks : List Nat → Array Bool → Array Bool
  | [], listed => listed
  | i :: is, listed => marks is (listed.setIfInBounds i true)
def opsAt (ops : Array Oper) : List Nat → List Oper
  | [] => []
  | i :: is => match ops[i]? with
    | some o => o :: opsAt ops is
    | none => opsAt ops is

theorem yieldsIf_of_quiet {o : Oper} {a : Act} {v : Value} (hp : plainOp o.op = true) (hw : Region.wanted o (yielded ops a.tmps) = true) (h : ∀ w, C w → o.quietAt P a C w v) : YieldsIf P ops C o v a := by
  refine .inl ⟨hw, fun w hC => ?_⟩
  have h1 := h w hC
  unfold Oper.quietAt at h1
  cases hr : (execOp a.eval o).run P w with
  | ok n w' =>
    rw [hr] at h1
    obtain ⟨u, rfl⟩ := plain_value hp hr
    simp only [Oper.quietUpon] at h1
    rw [h1.1, h1.2]
  | halt x w' =>
    rw [hr] at h1
    simp only [Oper.quietUpon] at h1

/-- Plain operations, as soon as they may come up. -/
theorem grow_take (hs : Region.noSelect ops = true) : ∀ (is : List Nat) (n : Nat) (listed : Array Bool) (a : Act), takesB ops is listed = true →
    wpQuiet P ops C (fun a' => ∀ w, C w → wpAnyH P .any ops (NoPanic Q) C n (marks is listed) a' w) (opsAt ops is) a → ∀ w, C w → wpAnyH P .any ops (NoPanic Q) C (n + is.length) listed a w
  | [], n, listed, a, _, h, w, hw => h w hw
  | i :: is, n, listed, a, hB, h, w, hw => by
    simp only [takesB, Bool.and_eq_true] at hB
    obtain ⟨⟨⟨hr, hf⟩, hp⟩, hB'⟩ := hB
    cases ho : ops[i]? with
    | none => rw [ho] at hp; simp at hp
    | some o =>
      rw [ho] at hp
      have hp' : plainOp o.op = true := by simpa using hp
      simp only [opsAt, ho, wpQuiet] at h
      have key : ∃ v, YieldsIf P ops C o v a ∧ wpQuiet P ops C (fun a' => ∀ w, C w → wpAnyH P .any ops (NoPanic Q) C n (marks is (listed.setIfInBounds i true)) a' w) (opsAt ops is) (a.put o.dst v) := by
        by_cases hwt : Region.wanted o (yielded ops a.tmps) = true
        · rw [if_pos hwt] at h
          obtain ⟨v, h1, h2⟩ := h
          exact ⟨v, yieldsIf_of_quiet hp' hwt h1, h2⟩
        · rw [if_neg hwt] at h
          exact ⟨undef, .inr ⟨by simpa using hwt, rfl⟩, h⟩
      obtain ⟨v, hy, hq⟩ := key
      exact wpAnyH_take ho hs hf hr (fun _ _ _ h => h) hy hw (grow_take hs is n (listed.setIfInBounds i true) (a.put o.dst v) hB' hq w hw)

/-- To know more is no harm. -/
theorem wpAnyH_strong {C' : World → Prop} (h : ∀ w, C' w → C w) : ∀ (n : Nat) (listed : Array Bool) (a : Act) (w : World), wpAnyH P .any ops Q C' n listed a w → wpAnyH P .any ops Q C n listed a w
  | 0, _, _, _, hh => hh
  | n + 1, _, _, _, hh => ⟨hh.1, fun i hi => wpOp_mono (fun a' w' ⟨h1, h2⟩ => ⟨h _ h1, wpAnyH_strong h n _ a' w' h2⟩) (hh.2 i hi)⟩

/-- All worlds that come out of w by making memory. -/
def upOf (w : World) (w' : World) : Prop := ∃ p : Regrown, w' = grow (redrawn w p.d) p.os

theorem up_of_below {w w' : World} (h : Below w.heap.size w w') : ∃ p : Regrown, w' = grow (redrawn w p.d) p.os := regrown_of_below h
theorem below_of_up {w w' : World} (h : ∃ p : Regrown, w' = grow (redrawn w p.d) p.os) : Below w.heap.size w w' := by
  obtain ⟨p, rfl⟩ := h
  exact below_regrown w p.d p.os

/-- The beginning. -/
theorem grow_begin {id : Nat} {a : Act} {w : World} {l : List Oper} (hm : P.follows .mixedOrders = true)
    (h : ∀ w', (∃ p : Regrown, w' = grow (redrawn w p.d) p.os) → wpAnyH P .any l.toArray (NoPanic Q) (fun w' => ∃ p : Regrown, w' = grow (redrawn w p.d) p.os) l.length (Array.replicate l.length false) a w') : (Code.region id l.toArray true).wp P Q a w := by
  refine wp_region_noPanic (wp_region_held_drew (S := fun w' => ∃ p : Regrown, w' = grow (redrawn w p.d) p.os) hm ?_ fun hS => ?_)
  · exact regrown_of_below ((Below.refl _ _).drew)
  · have := h w.drew hS
    simpa using this

/-- What is asked of operation o. -/
def stepOf (P : Program) (ops : Array Oper) (Q : Exit → Act → World → Prop) (K : Act → World → Prop) (a : Act) (w : World) : Option Oper → Prop
  | none => False
  | some o => if Region.wanted o (yielded ops a.tmps) = true then Oper.wp P o a w K Q else K (a.put o.dst undef) w

/-- Whichever of those that may come up comes up: behind it the worlds are those that come out of the world there. -/
theorem grow_all (rs : List Nat) {n : Nat} {listed : Array Bool} {a : Act} {w0 w : World} (hr : Region.ready .any ops listed = rs) (hne : rs ≠ []) (hw : ∃ p : Regrown, w = grow (redrawn w0 p.d) p.os)
    (h : ∀ i ∈ rs, ∀ K : Act → World → Prop, Shut (∀ a' w1, Below w.heap.size w w1 → (∀ w', (∃ p : Regrown, w' = grow (redrawn w1 p.d) p.os) → wpAnyH P .any ops (NoPanic Q) (fun w' => ∃ p : Regrown, w' = grow (redrawn w1 p.d) p.os) n (listed.setIfInBounds i true) a' w') → K a' w1) →
      stepOf P ops (NoPanic Q) K a w ops[i]?) : wpAnyH P .any ops (NoPanic Q) (fun w' => ∃ p : Regrown, w' = grow (redrawn w0 p.d) p.os) (n + 1) listed a w := by
  refine wpAnyH_all hr hne fun j hj => ?_
  have hb0 := below_of_up hw
  have hs := h j hj (fun a' w' => (∃ p : Regrown, w' = grow (redrawn w0 p.d) p.os) ∧ wpAnyH P .any ops (NoPanic Q) (fun w' => ∃ p : Regrown, w' = grow (redrawn w0 p.d) p.os) n (listed.setIfInBounds j true) a' w') (fun a' w1 hb hh => by
    have hb1 : Below w0.heap.size w0 w1 := hb0.trans (hb.mono hb0.size)
    exact ⟨regrown_of_below hb1, wpAnyH_strong (fun w' hw' => regrown_of_below (hb1.trans ((below_of_up hw').mono hb1.size))) _ _ _ _ (hh w1 (regrown_of_below (Below.refl _ _)))⟩)
  unfold wpOp
  cases ho : ops[j]? with
  | none => rw [ho] at hs; exact hs.elim
  | some o =>
    rw [ho] at hs
    simp only [stepOf] at hs
    show if Region.wanted o (yielded ops a.tmps) = true then _ else _
    by_cases hwt : Region.wanted o (yielded ops a.tmps) = true
    · rw [if_pos hwt] at hs ⊢; exact .inl hs
    · rw [if_neg hwt] at hs ⊢; exact hs

/-- One operation that alone may come up. -/
theorem grow_one (i : Nat) {n : Nat} {listed : Array Bool} {a : Act} {w0 w : World} (hr : Region.ready .any ops listed = [i]) (hw : ∃ p : Regrown, w = grow (redrawn w0 p.d) p.os)
    (h : ∀ K : Act → World → Prop, Shut (∀ a' w1, Below w.heap.size w w1 → (∀ w', (∃ p : Regrown, w' = grow (redrawn w1 p.d) p.os) → wpAnyH P .any ops (NoPanic Q) (fun w' => ∃ p : Regrown, w' = grow (redrawn w1 p.d) p.os) n (listed.setIfInBounds i true) a' w') → K a' w1) →
      stepOf P ops (NoPanic Q) K a w ops[i]?) : wpAnyH P .any ops (NoPanic Q) (fun w' => ∃ p : Regrown, w' = grow (redrawn w0 p.d) p.os) (n + 1) listed a w :=
  grow_all [i] hr (by simp) hw fun j hj => by
    obtain rfl : j = i := by simpa using hj
    exact h

/-- All have come up. -/
theorem grow_done {n : Nat} {listed : Array Bool} {a : Act} {w0 w : World} (hr : Region.ready .any ops listed = []) (h : Q .normal a w) : wpAnyH P .any ops (NoPanic Q) (fun w' => ∃ p : Regrown, w' = grow (redrawn w0 p.d) p.os) n listed a w :=
  wpAnyH_done hr (NoPanic.normal h) n

end
end Go.Proofs.YtfgaohilpbocbaaGreatDoor
end
