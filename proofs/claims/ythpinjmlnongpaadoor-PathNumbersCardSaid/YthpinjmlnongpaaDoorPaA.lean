/-
  Package rule: whether a name may have a byte; whether a file may have a name.
-/
import Derived.Test.YthpinjmlnongpaaDoorPaM
import Derived.Test.YthpinjmlnongpaaDoorStrLay
import Derived.Test.YthpinjmlnongpaaDoorBytes
import Derived.Test.YthpinjmlnongpaaDoorFr
import Derived.Deep.DeepCutAuto
import Derived.Deep.CutRange
import Derived.Deep.CutBlock
namespace Go.Proofs.YthpinjmlnongpaaDoor
open Go.ChangeShapes Go.WideShapes Go.ChangeAt Go.RowKit Go.Joins
set_option linter.unusedVariables false

/-- The library's variable that strings.Split reads. -/
structure Mx (w : World) : Prop where
  max : ∃ m, w.cell? ⟨2, 0, none⟩ = some (.int .i64 m)
theorem lt_cell {w : World} {a : Addr} {v : Value} (h : w.cell? a = some v) : a.block < w.heap.size := by
  rcases Nat.lt_or_ge a.block w.heap.size with h1 | h1
  · exact h1
  · simp [World.cell?, Array.getElem?_eq_none h1] at h
theorem Mx.below {w w' : World} (h : Mx w) (hb : Below w.heap.size w w') : Mx w' := by
  obtain ⟨m, hm⟩ := h.max
  exact ⟨m, (hb.cell (lt_cell hm)).trans hm⟩
theorem Mx.of_shape {w : World} (h : w.ShapedOpen Tryd.prog) : Mx w := ⟨lay_splitB.s1_3 w h⟩

set_option maxRecDepth 100000 in
theorem letter_any (c : Nat) (hc : c < 256) (w : World) :
    Calls Tryd.prog 55 #[.int .u8 (c : Int)] w fun e w' => e = .returned (.bool (letB c || decide (c = 47))) ∧ w' = w := by
  obtain ⟨r, hr⟩ : ∃ r, r = (letB c || decide (c = 47)) := ⟨_, rfl⟩
  rw [← hr]
  unfold letB at hr
  have H : c < 45 ∨ c = 45 ∨ c = 46 ∨ c = 47 ∨ (48 ≤ c ∧ c ≤ 57) ∨ (58 ≤ c ∧ c ≤ 94) ∨ c = 95 ∨ c = 96 ∨ (97 ≤ c ∧ c ≤ 122) ∨ 123 ≤ c := by omega
  rcases H with h | h | h | h | h | h | h | h | h | h
  all_goals
    have HR : Hid (r = decide ((97 ≤ c ∧ c ≤ 122) ∨ (48 ≤ c ∧ c ≤ 57) ∨ (45 ≤ c ∧ c ≤ 47) ∨ c = 95)) := by
      show _ = _
      rw [hr]
      simp only [← Bool.decide_and, ← Bool.decide_or]
      rw [decide_eq_decide]
      omega
    clear hr
    go_enter Tryd.func55, Tryd.ntmps55
    go_wp2_with fail
    go_ret
    refine ⟨ret_bool ?_, rfl⟩
    first | exact HR.out.symm | (rw [HR.out]; first | (symm; exact decide_eq_true (by omega)) | (symm; exact decide_eq_false (by omega)) | (rw [Bool.eq_iff_iff]; simp; omega))
end Go.Proofs.YthpinjmlnongpaaDoor
