/-
  slices.Sort of numbers; the open unknowns of an equation.
-/
import Derived.Test.YticppgopblgkbaaQuH
import Derived.Test.YticppgopblgkbaaSortLay
import Derived.Test.YticppgopblgkbaaPeelB
namespace Go.Proofs.Yticppgopblgkbaa
open Go.ChangeShapes Go.WideShapes Go.ChangeAt Go.RowKit Go.Joins Go.Shelf Go.Sort
set_option linter.unusedVariables false

theorem sort_ints (blk cap : Nat) (P : List Nat) (w : World) (h : Row w blk 3 cap P.length (lV P)) (hl : P.length ≤ 1000000) :
    Calls Try.prog 19 #[.slice (some ⟨blk, 0, none⟩) P.length cap] w fun e w' => e = .returned (.tuple #[]) ∧ ∃ P' : List Nat, P'.Perm P ∧ Row w' blk 3 cap P.length (lV P') ∧ Fr (fun b => b = blk) w w' := by
  have hz : (P.map fun n : Nat => (n : Int)).length = P.length := by simp
  have hH : Holds (Value.int .i64) w blk 0 (P.map fun n : Nat => (n : Int)).toArray := fun j hj => by
    have hj2 : j < P.length := by simpa using hj
    refine ⟨?_, h.loose _⟩
    rw [Nat.zero_add, h.cell j hj2, lV_get hj2]
    simp [hj2]
  have hc := AnyM.slices_Sort_int lay_sortI blk 0 cap (P.map fun n : Nat => (n : Int)) w hH h.lt (by rw [hz]; omega)
  rw [hz] at hc
  refine hc.mono ?_
  rintro e w' ⟨rfl, n, os, rfl⟩
  refine ⟨rfl, ?_⟩
  have hp := List.mergeSort_perm (P.map fun n : Nat => (n : Int)) (fun x y => decide (x ≤ y))
  generalize (P.map fun n : Nat => (n : Int)).mergeSort (fun x y => decide (x ≤ y)) = Z at *
  have hzl : Z.length = P.length := by rw [hp.length_eq, hz]
  have hpos : ∀ z ∈ Z, 0 ≤ z := fun z hz => by
    obtain ⟨n, _, rfl⟩ := List.mem_map.1 (hp.mem_iff.1 hz)
    omega
  refine ⟨Z.map Int.toNat, ?_, ?_, ?_⟩
  · have := hp.map Int.toNat
    rw [List.map_map] at this
    rwa [show (P.map (Int.toNat ∘ fun n : Nat => (n : Int))) = P from by
      rw [show (Int.toNat ∘ fun n : Nat => (n : Int)) = id from by funext n; simp]; simp] at this
  · obtain ⟨cs, h1, h2, h3⟩ := h
    have hlt := (Array.getElem?_eq_some_iff.1 h1).1
    refine ⟨putCells (Value.int .i64) 0 Z.toArray cs, ?_, by simp [putCells, h2], fun j hj => ?_⟩
    · unfold grow putRow mapBlock
      simp only
      rw [Array.getElem?_append_left (by simpa using hlt), Array.getElem?_modify, if_pos rfl]
      show (w.heap[blk]?).map _ = _
      rw [h1]
      rfl
    · have hjz : j < Z.length := by omega
      have hjc : j < cs.size := by
        have := h3 j hj
        exact (Array.getElem?_eq_some_iff.1 this).1
      have hz0 := hpos _ (List.getElem_mem hjz)
      rw [lV_get (by simp [hzl]; exact hj)]
      unfold putCells
      rw [Array.getElem?_mapIdx, Array.getElem?_eq_getElem hjc]
      simp [hjz]
      omega
  · refine ⟨rfl, rfl, rfl, ?_, fun k hk hx => ?_⟩
    · simp [grow, putRow, mapBlock]
    · unfold grow putRow mapBlock
      simp only
      rw [Array.getElem?_append_left (by simpa using hk), Array.getElem?_modify, if_neg (fun e => hx e.symm)]
      rfl

/-- The places of an equation's cells. -/
def pl (l : Cz) : List Nat := l.map fun c => c.1.toNat
/-- The first k cells' open unknowns. -/
def openTo (opn : Nat → Bool) (l : Cz) (k : Nat) : List Nat := (pl (l.take k)).filter opn
theorem openTo_next {opn : Nat → Bool} {l : Cz} {k : Nat} (h : k < l.length) : openTo opn l (k + 1) = openTo opn l k ++ (if opn l[k].1.toNat then [l[k].1.toNat] else []) := by
  unfold openTo pl
  rw [List.take_succ_eq_append_getElem h, List.map_append, List.filter_append]
  congr 1
  simp [List.filter_cons]
theorem openTo_len (opn : Nat → Bool) (l : Cz) (k : Nat) : (openTo opn l k).length ≤ k := by
  unfold openTo pl
  refine Nat.le_trans (List.length_filter_le _ _) ?_
  rw [List.length_map, List.length_take]
  omega
end Go.Proofs.Yticppgopblgkbaa
