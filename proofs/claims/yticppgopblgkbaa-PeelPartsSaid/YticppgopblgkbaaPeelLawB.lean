/-
  The law of package peel's Peel, walked.
-/
import Derived.Test.YticppgopblgkbaaPeW
namespace Go.Proofs.Yticppgopblgkbaa
open Go.ChangeShapes Go.WideShapes Go.ChangeAt Go.RowKit Go.Joins
set_option linter.unusedVariables false

set_option maxRecDepth 1000000 in
set_option maxHeartbeats 4000000 in
theorem peel_bad (a : Option Addr) (cap : Nat) (es : Eqz) (n : Int) (hn : -9223372036854775808 ≤ n ∧ n ≤ 9223372036854775807) (hR : ¬ RightP es n) (w : World) (hs : Er w a cap es) :
    Calls Try.prog 9 #[.slice a es.length cap, .int .i64 n] w fun e w' => e = .returned (.tuple #[.agg #[.slice none 0 0, .slice none 0 0, .slice none 0 0], .int .i64 1]) ∧ Below w.heap.size w w' := by
  have HS := Lib.hid hs
  have hlm := hs.lt
  have HR := Lib.hid (right_any a cap es n hn)
  rw [show decide (RightP es n) = false from decide_eq_false hR] at HR
  clear hs hR
  go_enter Try.func9, Try.ntmps9
  go_wp2_with fail
  have HB0 : Hid (Below w.heap.size w (w.alloc (.cells #[.slice none 0 0, .slice none 0 0, .slice none 0 0] 29))) := (Below.refl _ _).alloc (Nat.le_refl _) _
  refine (HR.out _ (HS.out.below HB0.out)).mono ?_
  rintro e w1 ⟨rfl, b1⟩
  have HB1 := Lib.hid (HB0.out.trans (b1.mono HB0.out.size))
  have HRES : Hid (w1.heap[w.heap.size]? = some (.cells #[.slice none 0 0, .slice none 0 0, .slice none 0 0] 29 (0, 0))) := (b1.block _ (by simp)).trans (heap_alloc_last w _)
  have p0 : w1.cell? ⟨w.heap.size, 0, none⟩ = some (.slice none 0 0) := by rw [cell_of_block HRES.out]; rfl
  have p1 : w1.cell? ⟨w.heap.size, 1, none⟩ = some (.slice none 0 0) := by rw [cell_of_block HRES.out]; rfl
  have p2 : w1.cell? ⟨w.heap.size, 2, none⟩ = some (.slice none 0 0) := by rw [cell_of_block HRES.out]; rfl
  have r0 := unfrozen_of_block HRES.out 0
  have r1 := unfrozen_of_block HRES.out 1
  have r2 := unfrozen_of_block HRES.out 2
  clear b1 HR
  go_wp2_with fail
  obtain ⟨W2, hW2⟩ : ∃ W2, W2 = (((w1.setCell ⟨w.heap.size, 0, none⟩ (.slice none 0 0)).setCell ⟨w.heap.size, 1, none⟩ (.slice none 0 0)).setCell ⟨w.heap.size, 2, none⟩ (.slice none 0 0)) := ⟨_, rfl⟩
  have q0 : W2.cell? ⟨w.heap.size, 0, none⟩ = some (.slice none 0 0) := by rw [hW2, cell_off (by omega), cell_off (by omega)]; exact cell_now p0
  have q1 : W2.cell? ⟨w.heap.size, 1, none⟩ = some (.slice none 0 0) := by rw [hW2, cell_off (by omega)]; exact cell_now ((cell_off (by omega)).trans p1)
  have q2 : W2.cell? ⟨w.heap.size, 2, none⟩ = some (.slice none 0 0) := by rw [hW2]; exact cell_now ((cell_off (by omega)).trans ((cell_off (by omega)).trans p2))
  have HBW : Hid (Below w.heap.size w W2) := by rw [hW2]; exact ((HB1.out.setCell (p := ⟨w.heap.size, 0, none⟩) (Nat.le_refl _) _).setCell (p := ⟨w.heap.size, 1, none⟩) (Nat.le_refl _) _).setCell (p := ⟨w.heap.size, 2, none⟩) (Nat.le_refl _) _
  rw [← hW2]
  clear hW2 p0 p1 p2 r0 r1 r2
  refine bodyPost_ret (v := .tuple #[.agg #[.slice none 0 0, .slice none 0 0, .slice none 0 0], .int .i64 1]) ?_ rfl ?_
  · rw [results_cell_tmp rfl]
    go_simp
  · exact ⟨rfl, HBW.out⟩

theorem ownV_cells {B : Nat} {w : World} {v : Value} {P : List (Nat × Nat)} (h : OwnV B w v P) : ∃ a cap, v = .slice a P.length cap ∧ P.length ≤ cap ∧ cap ≤ maxLen ∧ ∀ i, (hi : i < P.length) → ∃ b, a = some ⟨b, 0, none⟩ ∧ b < w.heap.size ∧ w.cell? ⟨b, i * 2 + 1, none⟩ = some (.int .i64 ((P[i].2 : Nat) : Int)) := by
  rcases h.2 with ⟨rfl, h0⟩ | ⟨g, cap, cur, rfl, hB, hh, h1, h2, h3, h4⟩
  · have : P = [] := List.eq_nil_of_length_eq_zero h0
    subst this
    exact ⟨none, 0, rfl, by simp, by simp, fun i hi => by simp at hi⟩
  · refine ⟨_, cap, rfl, h1, h2, fun i hi => ⟨g, rfl, (Array.getElem?_eq_some_iff.1 hh).1, ?_⟩⟩
    rw [cell_of_block hh]
    have h5 := (encV_get hi).2
    rw [← h4, List.getElem?_take] at h5
    split at h5
    · simpa using h5
    · cases h5
theorem ownN_cells {B : Nat} {w : World} {v : Value} {l : List Nat} (h : OwnN B w v l) : ∃ a cap, v = .slice a l.length cap ∧ l.length ≤ cap ∧ cap ≤ maxLen ∧ ∀ i, (hi : i < l.length) → ∃ b, a = some ⟨b, 0, none⟩ ∧ b < w.heap.size ∧ w.cell? ⟨b, i, none⟩ = some (.int .i64 ((l[i] : Nat) : Int)) := by
  by_cases hl : l = []
  · subst hl
    obtain ⟨a, c, rfl⟩ := own_slice h
    rcases h.2 with ⟨e, _⟩ | ⟨g, cap, cur, e, hB, hh, h1, h2, h3, h4⟩
    · cases e; exact ⟨none, 0, rfl, by simp, by simp, fun i hi => by simp at hi⟩
    · cases e; exact ⟨_, _, rfl, by simp, h2, fun i hi => by simp at hi⟩
  · obtain ⟨g, cap, rfl, h1, h2, h3, h4⟩ := row_of_own hl h
    exact ⟨_, cap, rfl, h2, h3, fun i hi => ⟨g, rfl, h1.lt, by rw [h1.cell i hi, lV_get hi]⟩⟩

/-- How often each is counted, when the first k of l are told. -/
def cntK (base : Nat → Nat) (l : List Nat) (k x : Nat) : Nat := base x + (l.take k).count x
theorem cntK_start (base : Nat → Nat) (l : List Nat) : cntK base l 0 = base := by funext x; simp [cntK]
theorem cntK_next (base : Nat → Nat) {l : List Nat} {k : Nat} (h : k < l.length) (x : Nat) : cntK base l (k + 1) x = if x = l[k] then cntK base l k l[k] + 1 else cntK base l k x := by
  unfold cntK
  rw [List.take_succ_eq_append_getElem h, List.count_append]
  by_cases e : x = l[k]
  · subst e; simp; omega
  · rw [if_neg e]
    have : List.count x [l[k]] = 0 := by rw [List.count_eq_zero]; simpa using e
    omega
theorem cntK_end (base : Nat → Nat) (l : List Nat) (x : Nat) : cntK base l l.length x = base x + l.count x := by simp [cntK]
theorem count_once : ∀ {l : List Nat}, l.Nodup → ∀ x, x ∈ l → l.count x = 1
  | [], _, x, hx => by simp at hx
  | y :: l, hn, x, hx => by
    rw [List.nodup_cons] at hn
    rw [List.count_cons]
    by_cases e : y = x
    · subst e
      rw [List.count_eq_zero.2 hn.1]; simp
    · have hx2 : x ∈ l := by
        rcases List.mem_cons.1 hx with h | h
        · exact absurd h.symm e
        · exact h
      rw [count_once hn.2 x hx2]
      simp [e]
end Go.Proofs.Yticppgopblgkbaa
