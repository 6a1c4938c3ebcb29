/-
  Equations of any kind: what the rank with the rights behind them tells, and that an answer fits. Plain mathematics.
-/
import Derived.Test.YtiglmoggpjgmbaaSolMath
namespace Go.Proofs.Ytiglmoggpjgmbaa
set_option linter.unusedVariables false

/-- The first k rows, filled, with their rights behind them. -/
def allR (rows right : Rws) (n k : Nat) : Rws := (List.range k).map fun i => fillN (rows.getD i []) n ++ right.getD i []
theorem allR_snoc (rows right : Rws) (n k : Nat) : allR rows right n (k + 1) = allR rows right n k ++ [fillN (rows.getD k []) n ++ right.getD k []] := by simp [allR, List.range_succ]
theorem allR_len (rows right : Rws) (n k : Nat) : (allR rows right n k).length = k := by simp [allR]

theorem toV_app {r g : List Nat} {n : Nat} (hr : IsByte r) (hn : r.length ≤ n) : vecL n ⟨r, g⟩ = toV (fillN r n ++ g) := funext fun j => GF.ext (by
  have hl := fillN_len r n
  by_cases h : j < n
  · rw [vecL_low h]
    show (toV r j).1 = _
    rw [← toV_fillN hr hn]
    show (fillN r n).getD j 0 % 256 = (fillN r n ++ g).getD j 0 % 256
    rw [List.getD_eq_getElem?_getD, List.getD_eq_getElem?_getD, List.getElem?_append_left (by omega)]
  · unfold vecL
    rw [if_neg h]
    show g.getD (j - n) 0 % 256 = (fillN r n ++ g).getD j 0 % 256
    rw [List.getD_eq_getElem?_getD, List.getD_eq_getElem?_getD, List.getElem?_append_right (by omega), hl])

/-- Rows of n numbers at most, rights of M. -/
structure Eqs (rows right : Rws) (n M : Nat) : Prop where
  he : right.length = rows.length
  hb : ∀ x ∈ rows, IsByte x
  hn : ∀ x ∈ rows, x.length ≤ n
  hb2 : ∀ x ∈ right, IsByte x
  hm : ∀ x ∈ right, x.length = M
theorem Eqs.there {rows right : Rws} {n M : Nat} (h : Eqs rows right n M) {D : List Ln} (hp : D.Perm (List.zipWith Ln.mk rows right)) {i : Nat} (hi : i < rows.length) : (Ln.mk (rows.getD i []) (right.getD i [])) ∈ D := by
  have hi2 : i < right.length := by rw [h.he]; exact hi
  have hz : i < (List.zipWith Ln.mk rows right).length := by rw [List.length_zipWith]; omega
  refine hp.mem_iff.2 ?_
  have := List.getElem_mem hz
  rw [List.getElem_zipWith] at this
  rw [getR hi, getR hi2]
  exact this
theorem Eqs.back {rows right : Rws} {n M : Nat} (h : Eqs rows right n M) {D : List Ln} (hp : D.Perm (List.zipWith Ln.mk rows right)) {l : Ln} (hl : l ∈ D) : ∃ i, i < rows.length ∧ l = ⟨rows.getD i [], right.getD i []⟩ := by
  obtain ⟨i, hi, e⟩ := List.getElem_of_mem (hp.mem_iff.1 hl)
  rw [List.length_zipWith] at hi
  rw [List.getElem_zipWith] at e
  refine ⟨i, by omega, ?_⟩
  rw [getR (show i < rows.length by omega), getR (show i < right.length by omega), e]
theorem Eqs.row {rows right : Rws} {n M : Nat} (h : Eqs rows right n M) {i : Nat} (hi : i < rows.length) : IsByte (rows.getD i []) ∧ (rows.getD i []).length ≤ n ∧ IsByte (right.getD i []) ∧ (right.getD i []).length = M := by
  have hi2 : i < right.length := by rw [h.he]; exact hi
  rw [getR hi, getR hi2]
  exact ⟨h.hb _ (List.getElem_mem hi), h.hn _ (List.getElem_mem hi), h.hb2 _ (List.getElem_mem hi2), h.hm _ (List.getElem_mem hi2)⟩
theorem Eqs.all {rows right : Rws} {n M : Nat} (h : Eqs rows right n M) {x : List Nat} (hx : x ∈ allR rows right n rows.length) : ∃ i, i < rows.length ∧ x = fillN (rows.getD i []) n ++ right.getD i [] := by
  obtain ⟨i, hi, rfl⟩ := List.mem_map.1 hx
  exact ⟨i, List.mem_range.1 hi, rfl⟩
theorem isByte_app {a b : List Nat} (ha : IsByte a) (hb : IsByte b) : IsByte (a ++ b) := fun n hn => (List.mem_append.1 hn).elim (ha n) (hb n)
theorem Eqs.byte {rows right : Rws} {n M : Nat} (h : Eqs rows right n M) : ∀ x ∈ allR rows right n rows.length, IsByte x := fun x hx => by
  obtain ⟨i, hi, rfl⟩ := h.all hx
  obtain ⟨h1, h2, h3, h4⟩ := h.row hi
  exact isByte_app (fillN_byte h1 n) h3
theorem Eqs.len {rows right : Rws} {n M : Nat} (h : Eqs rows right n M) : ∀ x ∈ allR rows right n rows.length, x.length = n + M := fun x hx => by
  obtain ⟨i, hi, rfl⟩ := h.all hx
  obtain ⟨h1, h2, h3, h4⟩ := h.row hi
  rw [List.length_append, fillN_len, h4]
theorem Eqs.same {rows right : Rws} {n M : Nat} (h : Eqs rows right n M) {D : List Ln} (hp : D.Perm (List.zipWith Ln.mk rows right)) : SameL n (longN (allR rows right n rows.length)) D (allR rows right n rows.length) := by
  refine ⟨h.byte, longN_ge, fun x hx => ?_, fun l hl => ?_⟩
  · obtain ⟨i, hi, rfl⟩ := h.all hx
    exact ⟨_, h.there hp hi, toV_app (h.row hi).1 (h.row hi).2.1⟩
  · obtain ⟨i, hi, rfl⟩ := h.back hp hl
    exact ⟨_, List.mem_map.2 ⟨i, List.mem_range.2 hi, rfl⟩, toV_app (h.row hi).1 (h.row hi).2.1⟩
theorem allZ_zero {M n : Nat} {D : List Ln} {st : List St} {zs : List Ln} (hi : Inv M n D st zs) (hz : (zs.all fun z => zeroB z.right) = true) : ∀ z ∈ zs, toV z.right = V.zero := fun z h =>
  (zeroB_iff (hi.okZ z h).1.right).1 (List.all_eq_true.1 hz z h)
theorem Eqs.sound {rows right : Rws} {n M : Nat} (h : Eqs rows right n M) {D : List Ln} {st : List St} {zs : List Ln} (hp : D.Perm (List.zipWith Ln.mk rows right)) (hi : Inv M n D st zs) (hz : (zs.all fun z => zeroB z.right) = true) :
    rankN (allR rows right n rows.length) = st.length := rank_sound hi (h.same hp) (allZ_zero hi hz)
theorem Eqs.unsound {rows right : Rws} {n M : Nat} (h : Eqs rows right n M) {D : List Ln} {st : List St} {zs : List Ln} (hp : D.Perm (List.zipWith Ln.mk rows right)) (hi : Inv M n D st zs) (hn : n ≤ st.length) (hz : (zs.all fun z => zeroB z.right) = false) :
    n < rankN (allR rows right n rows.length) := by
  obtain ⟨z, h1, h2⟩ := List.all_eq_false.1 hz
  exact rank_unsound hi (h.same hp) hn h1 fun e => h2 ((zeroB_iff (hi.okZ z h1).1.right).2 e)
/-- The answer. -/
def answers (n : Nat) (st : List St) : Rws := (List.range st.length).map fun j => (clearL n st j).right
theorem answers_ok {M n : Nat} {D : List Ln} {st : List St} {zs : List Ln} (hi : Inv M n D st zs) : ∀ x ∈ answers n st, IsByte x ∧ x.length = M := fun x hx => by
  obtain ⟨j, hj, rfl⟩ := List.mem_map.1 hx
  have C := clear_any hi.okS hi.up (List.mem_range.1 hj)
  exact ⟨C.ok.right, C.ok.len⟩
theorem Eqs.fit {rows right : Rws} {n M : Nat} (h : Eqs rows right n M) {D : List Ln} {st : List St} {zs : List Ln} (hp : D.Perm (List.zipWith Ln.mk rows right)) (hi : Inv M n D st zs) (hn : n ≤ st.length) (hz : (zs.all fun z => zeroB z.right) = true) {i : Nat} (hir : i < rows.length) :
    symTo (answers n st) M (fillN (rows.getD i []) n) (answers n st).length = right.getD i [] := by
  obtain ⟨h1, h2, h3, h4⟩ := h.row hir
  have few := hi.few
  have hl : (answers n st).length = n := by simp [answers]; omega
  have hb : ∀ x ∈ answers n st, IsByte x := fun x hx => (answers_ok hi x hx).1
  obtain ⟨s1, s2⟩ := symTo_ok (m := M) (row := fillN (rows.getD i []) n) hb (answers n st).length (Nat.le_refl _)
  refine toV_inj s2 h3 (by rw [s1, h4]) ?_
  rw [toV_sym hb (fun x hx => Nat.le_of_eq (answers_ok hi x hx).2) (fillN_byte h1 n) _ (Nat.le_refl _), hl, answer_fits hi (allZ_zero hi hz) hn (h.there hp hir)]
  refine sumTo_congr fun j hj => ?_
  rw [toV_fillN h1 h2]
  have : (answers n st).getD j [] = (clearL n st j).right := by rw [getR (by omega)]; simp [answers]
  rw [this]
  rfl
end Go.Proofs.Ytiglmoggpjgmbaa
