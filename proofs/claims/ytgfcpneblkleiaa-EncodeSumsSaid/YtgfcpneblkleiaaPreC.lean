/-
  All rows of package precode's numbers.
-/
import Derived.Test.YtgfcpneblkleiaaPreB
import Derived.Test.YtgfcpneblkleiaaGrid
namespace Go.Proofs.Ytgfcpneblkleiaa
open Go.ChangeShapes Go.WideShapes Go.ChangeAt Go.RowKit Go.Joins
set_option linter.unusedVariables false

def GridPost (ls : Rws) (n : Nat) (w : World) (e : Ending) (w' : World) : Prop :=
  ∃ g, e = .returned (.slice (some ⟨g, 0, none⟩) n n) ∧ Grid w.heap.size w' g ls ∧ Below w.heap.size w w'

/-- The slices of block g lie from block B on. -/
def CellsHi (B : Nat) (w : World) (g : Nat) : Prop := ∃ cs, w.heap[g]? = some (.cells cs 30 (0, 0)) ∧ ∀ (i : Nat) (p : Addr) (n c : Nat), cs[i]? = some (.slice (some p) n c) → B ≤ p.block
theorem CellsHi.new (B n : Nat) (w : World) : CellsHi B (w.alloc (.cells (rowArr n nilV) 30)) w.heap.size :=
  ⟨_, heap_alloc_new w _, fun i p m c h => by
    obtain ⟨hi, e⟩ := Array.getElem?_eq_some_iff.1 h
    simp [rowArr, nilV] at e⟩
theorem CellsHi.below {B C : Nat} {w w' : World} {g : Nat} (h : CellsHi B w g) (k : Below C w w') (hg : g < C) : CellsHi B w' g := by
  obtain ⟨cs, h1, h2⟩ := h
  exact ⟨cs, (k.block g hg).trans h1, h2⟩
theorem CellsHi.set {B : Nat} {w : World} {g : Nat} (h : CellsHi B w g) (j : Nat) (b n c : Nat) (hb : B ≤ b) : CellsHi B (w.setCell ⟨g, j, none⟩ (.slice (some ⟨b, 0, none⟩) n c)) g := by
  obtain ⟨cs, h1, h2⟩ := h
  refine ⟨_, block_setCell h1 _, fun i p m d e => ?_⟩
  rw [Array.getElem?_setIfInBounds] at e
  split at e
  · split at e
    · injection e with e
      injection e with e _ _
      injection e with e
      subst e
      exact hb
    · cases e
  · exact h2 i p m d e
theorem CellsHi.at {B : Nat} {w : World} {g : Nat} (h : CellsHi B w g) {i : Nat} {p : Addr} {n c : Nat} (hc : w.cell? ⟨g, i, none⟩ = some (.slice (some p) n c)) : B ≤ p.block := by
  obtain ⟨cs, h1, h2⟩ := h
  rw [cell_of_block h1] at hc
  exact h2 i p n c hc
/-- The same, and the slices lie in blocks of the call's own. -/
def GridHi (ls : Rws) (n : Nat) (w : World) (e : Ending) (w' : World) : Prop :=
  ∃ g, e = .returned (.slice (some ⟨g, 0, none⟩) n n) ∧ Grid w.heap.size w' g ls ∧ Below w.heap.size w w' ∧ CellsHi w.heap.size w' g
theorem GridHi.post {ls : Rws} {n : Nat} {w : World} {e : Ending} {w' : World} (h : GridHi ls n w e w') : GridPost ls n w e w' := by
  obtain ⟨g, h1, h2, h3, _⟩ := h
  exact ⟨g, h1, h2, h3⟩

set_option maxHeartbeats 800000 in
theorem rows_hi (k : Int) (n K : Nat) (hn : n ≤ 1000) (hK : K ≤ 1000) (r : Nat → List Nat) (hr : ∀ j, (r j).length = K ∧ IsByte (r j))
    (hC : ∀ w, Calls Try.prog 27 #[.int .i64 k] w fun e w' => e = .returned (.int .i64 (n : Int)) ∧ w = w')
    (hN : ∀ j : Nat, j < n → ∀ w, Calls Try.prog 33 #[.int .i64 (j : Int), .int .i64 k] w fun e w' => e = .returned (.slice (some ⟨w.heap.size, 0, none⟩) K K) ∧ NewTo w w' (r j) K) (w : World) :
    Calls Try.prog 28 #[.int .i64 k] w (GridHi ((List.range n).map r) n w) := by
  have HR := Lib.hid hr
  have HC := Lib.hid hC
  have HN := Lib.hid hN
  have hmk := make_grid n (by omega) w
  have HG0 := Lib.hid (Grid.new w.heap.size n w (Nat.le_refl _))
  have HB0 := Lib.hid ((Below.refl w.heap.size w).alloc (Nat.le_refl _) (.cells (rowArr n nilV) 30))
  have HC0 := Lib.hid (CellsHi.new w.heap.size n w)
  clear hr hC hN
  go_enter Try.func28, Try.ntmps28
  go_wp2_with (go_at_call 27; refine (HC.out _).mono ?_; rintro e w' ⟨rfl, rfl⟩)
  clear hmk
  go_loopw [10] (fun i wr => ∃ (j : Nat) (ls : Rws), j ≤ n ∧ i = .int .i64 j ∧ Hid (Grid w.heap.size wr w.heap.size ls) ∧ Hid (ls.length = n) ∧ Hid (∀ i (h : i < ls.length), i < j → ls[i] = r i) ∧ Hid (Below w.heap.size w wr) ∧ Hid (CellsHi w.heap.size wr w.heap.size)) (fun i _ => n - (intOf i).toNat)
  case atStart => exact ⟨0, List.replicate n [], by omega, rfl, HG0, by show _ = _; simp, fun i h hi => by omega, HB0, HC0⟩
  case round =>
    obtain ⟨j, ls, hj, rfl, HG, HL, HT, HB, HHI⟩ := hrel
    by_cases hlt : j < n
    · go_wp2_with fail
      refine (HN.out j hlt _).mono ?_
      rintro e w1 ⟨rfl, hn1⟩
      have hb1 := hn1.below
      have HG1 := Lib.hid (HG.out.below hb1)
      have HB1 : Hid (Below w.heap.size w w1) := HB.out.trans (hb1.mono HB.out.size)
      have hjl : j < ls.length := by rw [HL.out]; exact hlt
      have hrw : Rw w.heap.size w1 (some ⟨wr.heap.size, 0, none⟩) K (r j) := rw_of hn1 (HR.out j).1 (HR.out j).2 (by omega)
      have hgs := HG1.out.set hjl hrw
      rw [(HR.out j).1] at hgs
      have HGS := Lib.hid hgs
      have HBS : Hid (Below w.heap.size w (w1.setCell ⟨w.heap.size, j, none⟩ (.slice (some ⟨wr.heap.size, 0, none⟩) K K))) := HB1.out.setCell (Nat.le_refl _) _
      obtain ⟨ca, cc, hcell, _⟩ := HG1.out.cell hjl
      have hlo := HG1.out.loose j
      have HHS : Hid (CellsHi w.heap.size (w1.setCell ⟨w.heap.size, j, none⟩ (.slice (some ⟨wr.heap.size, 0, none⟩) K K)) w.heap.size) := (HHI.out.below hb1 HG.out.lt).set j _ _ _ HB.out.size
      have HT2 : Hid (∀ i (h : i < (ls.set j (r j)).length), i < j + 1 → (ls.set j (r j))[i] = r i) := fun i h hi => by
        by_cases e : i = j
        · subst e; simp
        · rw [List.getElem_set_ne (Ne.symm e)]; exact HT.out i (by simpa using h) (by omega)
      have HL2 : Hid ((ls.set j (r j)).length = n) := by show _ = _; rw [List.length_set]; exact HL.out
      generalize ls.set j (r j) = ls2 at *
      generalize wr.heap.size = g1 at *
      clear hrw hn1 hgs hb1
      go_wp2_with fail
      go_roundw
      case rel => exact ⟨j + 1, ls2, by omega, by go_num, HGS, HL2, HT2, HBS, HHS⟩
      case measure => simp [intOf]; omega
    · obtain rfl : j = n := by omega
      have HE : Hid (ls = (List.range j).map r) := by
        show _ = _
        apply List.ext_getElem
        · rw [HL.out]; simp
        · intro i h1 h2
          rw [HT.out i h1 (by simpa using h2)]; simp
      go_wp2_with fail
      go_ret
      exact ⟨_, rfl, by rw [← HE.out]; exact HG.out, HB.out, HHI.out⟩

theorem rows_gen (k : Int) (n K : Nat) (hn : n ≤ 1000) (hK : K ≤ 1000) (r : Nat → List Nat) (hr : ∀ j, (r j).length = K ∧ IsByte (r j))
    (hC : ∀ w, Calls Try.prog 27 #[.int .i64 k] w fun e w' => e = .returned (.int .i64 (n : Int)) ∧ w = w')
    (hN : ∀ j : Nat, j < n → ∀ w, Calls Try.prog 33 #[.int .i64 (j : Int), .int .i64 k] w fun e w' => e = .returned (.slice (some ⟨w.heap.size, 0, none⟩) K K) ∧ NewTo w w' (r j) K) (w : World) :
    Calls Try.prog 28 #[.int .i64 k] w (GridPost ((List.range n).map r) n w) :=
  (rows_hi k n K hn hK r hr hC hN w).mono fun _ _ h => h.post

theorem rows_hi_pre (k : Nat) (h1 : 1 ≤ k) (hk : k ≤ 64) (w : World) :
    Calls Try.prog 28 #[.int .i64 (k : Int)] w (GridHi (parRows k) (spN k + 2) w) :=
  rows_hi k (spN k + 2) k (by have := spN_bound hk; omega) (by omega) (parRow k) (fun j => ⟨parRow_len k j, parRow_byte k j⟩) (fun w => count_any k h1 hk w) (fun j hj w => numbers_any j k h1 hk hj w) w

theorem rows_pre (k : Nat) (h1 : 1 ≤ k) (hk : k ≤ 64) (w : World) :
    Calls Try.prog 28 #[.int .i64 (k : Int)] w (GridPost (parRows k) (spN k + 2) w) :=
  rows_gen k (spN k + 2) k (by have := spN_bound hk; omega) (by omega) (parRow k) (fun j => ⟨parRow_len k j, parRow_byte k j⟩) (fun w => count_any k h1 hk w) (fun j hj w => numbers_any j k h1 hk hj w) w

theorem rows_none (k : Int) (h : k < 1 ∨ 64 < k) (w : World) :
    Calls Try.prog 28 #[.int .i64 k] w (GridPost [] 0 w) :=
  rows_gen k 0 0 (by omega) (by omega) (fun _ => []) (fun j => ⟨rfl, by simp [IsByte]⟩) (fun w => count_none k h w) (fun j hj => absurd hj (by omega)) w
end Go.Proofs.Ytgfcpneblkleiaa
