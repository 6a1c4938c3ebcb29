/-
  A heap of equations: Swap, told by the list.
-/
import Derived.Test.YticppgopblgkbaaQuB
namespace Go.Proofs.Yticppgopblgkbaa
open Go.ChangeShapes Go.WideShapes Go.ChangeAt Go.RowKit Go.Joins
set_option linter.unusedVariables false

/-- Two places change. -/
def swapL (es : List Nat) (i j : Nat) : List Nat := (es.set i (es.getD j 0)).set j (es.getD i 0)
/-- A function, another value at one place. -/
def upd (f : Nat → Nat) (a b : Nat) : Nat → Nat := fun x => if x = a then b else f x

theorem swapL_len (es : List Nat) (i j : Nat) : (swapL es i j).length = es.length := by simp [swapL]
theorem swapL_get {es : List Nat} {i j k : Nat} (hi : i < es.length) (hj : j < es.length) (hk : k < (swapL es i j).length) : (swapL es i j)[k] = if k = j then es[i] else if k = i then es[j] else es[k]'(by rw [swapL_len] at hk; exact hk) := by
  unfold swapL at hk ⊢
  rw [List.getElem_set]
  by_cases h1 : j = k
  · subst h1; simp [List.getD, hi]
  · rw [if_neg h1, if_neg (fun e => h1 e.symm), List.getElem_set]
    by_cases h2 : i = k
    · subst h2; simp [List.getD, hj]
    · rw [if_neg h2, if_neg (fun e => h2 e.symm)]
theorem swapL_perm {es : List Nat} {i j : Nat} (hi : i < es.length) (hj : j < es.length) : (swapL es i j).Perm es := by
  unfold swapL
  have h := (Array.swap_perm (xs := es.toArray) (i := i) (j := j) (by simpa using hi) (by simpa using hj)).toList
  have e : (es.toArray.swap i j (by simpa using hi) (by simpa using hj)).toList = (es.set i (es.getD j 0)).set j (es.getD i 0) := by
    simp [Array.swap, List.getD, hi, hj]
  rw [e] at h
  simpa using h

/-- A queue whose row of equations was changed about. -/
def Turned (q : QP) (m : Nat) (op : Nat → Nat) (es es' : List Nat) (w w' : World) : Prop := (∃ at_, Qm w' q m es' at_ op) ∧ es'.Perm es ∧ Fr q.X w w'

theorem swap_any (q : QP) (m : Nat) (es : List Nat) (at_ op : Nat → Nat) (w : World) (h : Qm w q m es at_ op) (i j : Nat) (hi : i < es.length) (hj : j < es.length) (hij : i ≠ j) :
    Calls Try.prog 66 #[.pointer (some ⟨q.qb, 0, none⟩), .int .i64 (i : Int), .int .i64 (j : Int)] w fun e w' => e = .returned (.tuple #[]) ∧ Turned q m op es (swapL es i j) w w' := by
  obtain ⟨c0, c1, c2⟩ := h.cells
  obtain ⟨e1, x1⟩ := h.some hi
  obtain ⟨_, x2⟩ := h.some hj
  have l1 := h.low _ (List.getElem_mem hi)
  have l2 := h.low _ (List.getElem_mem hj)
  obtain ⟨E1, E2, E3, E4, E5⟩ := h.here.resolve_left (fun e => by rw [e.1] at hi; simp at hi)
  have hne : es[i] ≠ es[j] := fun e => hij (nd_inj h.nd hi hj e)
  rw [e1] at c0
  refine (swap_raw q.qb q.eb q.cap q.ab m es.length i j es[i] es[j] _ _ w hi hj hij h.len h.most h.few l1 l2 hne c0 c1 x1 x2 (E2.loose i) (E2.loose j) (h.arow.cell _ l1) (h.arow.cell _ l2) (h.arow.loose _) (h.arow.loose _) h.d1 E3 E4).mono ?_
  rintro e w' ⟨rfl, n, rfl⟩
  refine ⟨rfl, ⟨upd (upd at_ es[j] i) es[i] j, Qm.fr (X := fun _ => False) ?_ (fr_drawn (Fr.refl _ _)) (fun _ _ h => h)⟩, swapL_perm hi hj, fr_drawn ?_⟩
  · have hl := swapL_len es i j
    have R1 : Row (((w.setCell ⟨q.eb, i, none⟩ (.int .i64 ((es[j] : Nat) : Int))).setCell ⟨q.eb, j, none⟩ (.int .i64 ((es[i] : Nat) : Int)))) q.eb 3 q.cap es.length (lV (swapL es i j)) := by
      refine ((E2.upd i (Nat.lt_of_lt_of_le hi h.len) _).upd j (Nat.lt_of_lt_of_le hj h.len) _).mono (Nat.le_refl _) fun k hk => ?_
      have hk2 : k < (swapL es i j).length := by rw [hl]; exact hk
      rw [lV_get hk2, swapL_get hi hj hk2]
      show (if k = j then _ else if k = i then _ else _) = _
      by_cases k1 : k = j
      · rw [if_pos k1, if_pos k1]
      · rw [if_neg k1, if_neg k1]
        by_cases k2 : k = i
        · rw [if_pos k2, if_pos k2]
        · rw [if_neg k2, if_neg k2]
          exact lV_get hk
    have A1 : Row (((w.setCell ⟨q.eb, i, none⟩ (.int .i64 ((es[j] : Nat) : Int))).setCell ⟨q.eb, j, none⟩ (.int .i64 ((es[i] : Nat) : Int)))) q.ab 3 m m (nV at_) := (h.arow.other (Ne.symm E4)).other (Ne.symm E4)
    have A2 := ((A1.upd es[j] l2 (.int .i64 (i : Int))).upd es[i] l1 (.int .i64 (j : Int))).mono (f := nV (upd (upd at_ es[j] i) es[i] j)) (Nat.le_refl _) fun k hk => by
      unfold nV upd
      split
      · rfl
      · split <;> rfl
    refine Qm.mk ?_ (.inr ⟨e1, ?_, E3, E4, E5⟩) (by rw [hl]; exact h.len) h.most (by rw [hl]; exact h.short) A2 ?_ h.d1 h.d2 h.d3 ?_ ?_ ?_ h.few h.opb
    · rw [hl]
      refine Eq.trans ?_ h.head
      rw [Below.heap_setCell _ _ _ _ h.d1, Below.heap_setCell _ _ _ _ h.d1, Below.heap_setCell _ _ _ _ (Ne.symm E3), Below.heap_setCell _ _ _ _ (Ne.symm E3)]
    · rw [hl]
      exact (R1.other E4).other E4
    · have o1 : Row (w.setCell ⟨q.eb, i, none⟩ (.int .i64 ((es[j] : Nat) : Int))) q.ob 3 m m (nV op) := h.orow.other (Ne.symm E5)
      have o2 : Row ((w.setCell ⟨q.eb, i, none⟩ (.int .i64 ((es[j] : Nat) : Int))).setCell ⟨q.eb, j, none⟩ (.int .i64 ((es[i] : Nat) : Int))) q.ob 3 m m (nV op) := o1.other (Ne.symm E5)
      exact (o2.other (Ne.symm h.d3)).other (Ne.symm h.d3)
    · intro e he
      exact h.low e ((swapL_perm hi hj).mem_iff.1 he)
    · exact (swapL_perm hi hj).nodup_iff.2 h.nd
    · intro k hk
      have hk2 : k < es.length := by rw [hl] at hk; exact hk
      rw [swapL_get hi hj hk]
      unfold upd
      by_cases k1 : k = j
      · subst k1; simp
      · by_cases k2 : k = i
        · subst k2; rw [if_neg k1, if_pos rfl, if_neg (fun e => hne e.symm), if_pos rfl]
        · rw [if_neg k1, if_neg k2, if_neg (fun e => k2 (nd_inj h.nd hk2 hi e)), if_neg (fun e => k1 (nd_inj h.nd hk2 hj e))]
          exact h.pos k hk2
  · refine Fr.set (Fr.set (Fr.set (Fr.set (Fr.refl _ _) ?_ _) ?_ _) ?_ _) ?_ _
    · exact fun _ => .inr (.inr (.inr rfl))
    · exact fun _ => .inr (.inr (.inr rfl))
    · exact fun _ => .inr (.inl rfl)
    · exact fun _ => .inr (.inl rfl)
end Go.Proofs.Yticppgopblgkbaa
