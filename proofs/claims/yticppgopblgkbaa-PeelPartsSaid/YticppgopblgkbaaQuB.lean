/-
  A heap of equations: Swap.
-/
import Derived.Test.YticppgopblgkbaaQuA
import Derived.BigRegion
namespace Go.Proofs.Yticppgopblgkbaa
open Go.ChangeShapes Go.WideShapes Go.ChangeAt Go.RowKit Go.Joins
set_option linter.unusedVariables false

theorem nd_inj {l : List Nat} (h : l.Nodup) {i j : Nat} (hi : i < l.length) (hj : j < l.length) (e : l[i] = l[j]) : i = j := by
  rcases Nat.lt_trichotomy i j with hlt | rfl | hlt
  · exact absurd e (List.pairwise_iff_getElem.1 h i j hi hj hlt)
  · rfl
  · exact absurd e.symm (List.pairwise_iff_getElem.1 h j i hj hi hlt)

theorem cell_far {w : World} {p r : Addr} {u : Value} (h : p.block ≠ r.block) : (w.setCell p u).cell? r = w.cell? r := World.cell?_setCell_other _ _ _ _ fun e => h (by rw [e])
theorem cell_off {w : World} {b i j : Nat} {u : Value} (h : i ≠ j) : (w.setCell ⟨b, i, none⟩ u).cell? ⟨b, j, none⟩ = w.cell? ⟨b, j, none⟩ := World.cell?_setCell_other _ _ _ _ fun e => h (by injection e)
theorem cell_now {w : World} {p : Addr} {u v : Value} (h : w.cell? p = some v) : (w.setCell p u).cell? p = some u := World.cell?_setCell_same _ _ _ h

set_option maxRecDepth 1000000 in
set_option maxHeartbeats 16000000 in
theorem swap_raw (qb eb cap ab m L i j a b : Nat) (p r : Value) (w : World) (i1 : i < L) (j1 : j < L) (hij : i ≠ j) (hL : L ≤ cap) (hcm : cap ≤ maxLen) (hm : m ≤ 1000) (a1 : a < m) (b1 : b < m) (hab : a ≠ b)
    (c0 : w.cell? ⟨qb, 0, none⟩ = some (.slice (some ⟨eb, 0, none⟩) L cap)) (c1 : w.cell? ⟨qb, 1, none⟩ = some (.slice (some ⟨ab, 0, none⟩) m m))
    (x1 : w.cell? ⟨eb, i, none⟩ = some (.int .i64 (a : Int))) (x2 : w.cell? ⟨eb, j, none⟩ = some (.int .i64 (b : Int))) (f1 : w.frozen? ⟨eb, i, none⟩ = false) (f2 : w.frozen? ⟨eb, j, none⟩ = false)
    (y1 : w.cell? ⟨ab, a, none⟩ = some p) (y2 : w.cell? ⟨ab, b, none⟩ = some r) (g1 : w.frozen? ⟨ab, a, none⟩ = false) (g2 : w.frozen? ⟨ab, b, none⟩ = false)
    (d1 : qb ≠ ab) (d2 : eb ≠ qb) (d3 : eb ≠ ab) :
    Calls Try.prog 66 #[.pointer (some ⟨qb, 0, none⟩), .int .i64 (i : Int), .int .i64 (j : Int)] w fun e w' => e = .returned (.tuple #[]) ∧ ∃ n, w' = World.drewN ((((w.setCell ⟨eb, i, none⟩ (.int .i64 (b : Int))).setCell ⟨eb, j, none⟩ (.int .i64 (a : Int))).setCell ⟨ab, b, none⟩ (.int .i64 (i : Int))).setCell ⟨ab, a, none⟩ (.int .i64 (j : Int))) n := by
  have l1z : (a : Int) < (m : Int) := by omega
  have l2z : (b : Int) < (m : Int) := by omega
  have i1z : (i : Int) < (L : Int) := by omega
  have j1z : (j : Int) < (L : Int) := by omega
  go_enter Try.func66, Try.ntmps66
  go_wp2_with fail
  go_region
  go_wp2_with fail
  obtain ⟨w2, hw2⟩ : ∃ w2, w2 = ((w.setCell ⟨eb, i, none⟩ (.int .i64 (b : Int))).setCell ⟨eb, j, none⟩ (.int .i64 (a : Int))) := ⟨_, rfl⟩
  have C0 : w2.drew.cell? ⟨qb, 0, none⟩ = some (.slice (some ⟨eb, 0, none⟩) L cap) := by subst hw2; exact ((cell_far (p := ⟨eb, j, none⟩) d2).trans (cell_far (p := ⟨eb, i, none⟩) d2)).trans c0
  have C1 : w2.drew.cell? ⟨qb, 1, none⟩ = some (.slice (some ⟨ab, 0, none⟩) m m) := by subst hw2; exact ((cell_far (p := ⟨eb, j, none⟩) d2).trans (cell_far (p := ⟨eb, i, none⟩) d2)).trans c1
  have X1 : w2.drew.cell? ⟨eb, i, none⟩ = some (.int .i64 (b : Int)) := by subst hw2; exact (cell_off (Ne.symm hij)).trans (cell_now x1)
  have X2 : w2.drew.cell? ⟨eb, j, none⟩ = some (.int .i64 (a : Int)) := by subst hw2; exact cell_now ((cell_off hij).trans x2)
  have Y1 : w2.drew.cell? ⟨ab, a, none⟩ = some p := by subst hw2; exact ((cell_far (p := ⟨eb, j, none⟩) d3).trans (cell_far (p := ⟨eb, i, none⟩) d3)).trans y1
  have Y2 : w2.drew.cell? ⟨ab, b, none⟩ = some r := by subst hw2; exact ((cell_far (p := ⟨eb, j, none⟩) d3).trans (cell_far (p := ⟨eb, i, none⟩) d3)).trans y2
  have G1 : w2.drew.frozen? ⟨ab, a, none⟩ = false := by subst hw2; simpa using g1
  have G2 : w2.drew.frozen? ⟨ab, b, none⟩ = false := by subst hw2; simpa using g2
  have HE : Hid (∃ n, ((w2.drew.setCell ⟨ab, b, none⟩ (.int .i64 (i : Int))).setCell ⟨ab, a, none⟩ (.int .i64 (j : Int))).drew = World.drewN ((((w.setCell ⟨eb, i, none⟩ (.int .i64 (b : Int))).setCell ⟨eb, j, none⟩ (.int .i64 (a : Int))).setCell ⟨ab, b, none⟩ (.int .i64 (i : Int))).setCell ⟨ab, a, none⟩ (.int .i64 (j : Int))) n) := by subst hw2; exact ⟨2, rfl⟩
  rw [← hw2]
  generalize w2.drew = w3 at *
  clear c0 c1 x1 x2 y1 y2 f1 f2 g1 g2 hw2
  go_region
  go_wp2_with fail
  go_end0
  exact ⟨rfl, HE.out⟩
end Go.Proofs.Yticppgopblgkbaa
