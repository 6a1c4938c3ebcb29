/-
  A heap of equations: one of an equation's unknowns isn't open any more.
-/
import Derived.Test.YticppgopblgkbaaQuF
namespace Go.Proofs.Yticppgopblgkbaa
open Go.ChangeShapes Go.WideShapes Go.ChangeAt Go.RowKit Go.Joins
set_option linter.unusedVariables false

/-- A queue of just those equations that have an open unknown. -/
def Qi (w : World) (q : QP) (m : Nat) (op : Nat → Nat) : Prop := ∃ es at_, Qm w q m es at_ op ∧ ∀ e, e ∈ es ↔ e < m ∧ 0 < op e
theorem Qi.fr {X : Nat → Prop} {w w' : World} {q : QP} {m : Nat} {op : Nat → Nat} (h : Qi w q m op) (k : Fr X w w') (hx : ∀ b, q.X b → ¬ X b) : Qi w' q m op := by
  obtain ⟨es, at_, h1, h2⟩ := h
  exact ⟨es, at_, h1.fr k hx, h2⟩

/-- The number of an equation's open unknowns is written. -/
theorem Qm.open {w : World} {q : QP} {m : Nat} {es : List Nat} {at_ op : Nat → Nat} (h : Qm w q m es at_ op) {e : Nat} (he : e < m) (o : Nat) (ho : o ≤ 1000000) :
    Qm (w.setCell ⟨q.ob, e, none⟩ (.int .i64 (o : Int))) q m es at_ (upd op e o) := by
  refine ⟨(Below.heap_setCell _ _ _ _ h.d2).trans h.head, ?_, h.len, h.most, h.short, h.arow.other (C := q.ob) h.d3, ?_, h.d1, h.d2, h.d3, h.low, h.nd, h.pos, h.few, ?_⟩
  · rcases h.here with h1 | ⟨h1, h2, h3, h4, h5⟩
    · exact .inl h1
    · exact .inr ⟨h1, h2.other (C := q.ob) h5, h3, h4, h5⟩
  · refine h.orow.set_eq e he _ fun j hj => ?_
    unfold nV upd
    split <;> rfl
  · intro x
    unfold upd
    split
    · exact ho
    · exact h.opb x

theorem upd_same (f : Nat → Nat) (a b : Nat) : upd f a b a = b := by simp [upd]
theorem upd_far (f : Nat → Nat) {a b x : Nat} (h : x ≠ a) : upd f a b x = f x := by simp [upd, h]

set_option maxRecDepth 100000 in
set_option maxHeartbeats 2000000 in
theorem lessen_any (q : QP) (m : Nat) (op : Nat → Nat) (w : World) (h : Qi w q m op) (e : Nat) (he : e < m) (h0 : 0 < op e) :
    Calls Try.prog 16 #[.pointer (some ⟨q.qb, 0, none⟩), .int .i64 (e : Int)] w fun r w' => r = .returned (.tuple #[]) ∧ Qi w' q m (upd op e (op e - 1)) ∧ Fr q.X w w' := by
  obtain ⟨es, at_, h1, h2⟩ := h
  obtain ⟨i, hi, hei⟩ := List.getElem_of_mem ((h2 e).2 ⟨he, h0⟩)
  obtain ⟨o, ho⟩ : ∃ o, op e = o + 1 := ⟨op e - 1, by omega⟩
  have ho2 : op e - 1 = o := by omega
  have hob := h1.opb e
  have hm := h1.few
  have Q1 := h1.open he o (by omega)
  rw [ho2]
  obtain ⟨c0, c1, c2⟩ := h1.cells
  obtain ⟨C0, C1, C2⟩ := Q1.cells
  have y1 := h1.orow.cell e he
  have z1 := h1.orow.loose e
  have Y1 := Q1.orow.cell e he
  have X1 := Q1.arow.cell e he
  unfold nV at y1 Y1 X1
  rw [ho] at y1
  rw [upd_same] at Y1
  have hat : at_ e = i := by rw [← hei]; exact h1.pos i hi
  rw [hat] at X1
  have hez : (e : Int) < (m : Int) := by omega
  have hoz : ((o + 1 : Nat) : Int) - 1 = (o : Int) := by omega
  have hob2 : o ≤ 1000000 := by omega
  have HF1 : Hid (Fr q.X w (w.setCell ⟨q.ob, e, none⟩ (.int .i64 (o : Int)))) := (Fr.refl _ _).set (p := ⟨q.ob, e, none⟩) (fun _ => .inr (.inr (.inl rfl))) _
  have d2 : q.ob ≠ q.qb := Ne.symm h1.d2
  by_cases o0 : o = 0
  · have HR := Lib.hid (remove_any q m es at_ (upd op e o) _ Q1 i hi)
    have HM : Hid (∀ es' : List Nat, (es' ++ [e]).Perm es → ∀ x, x ∈ es' ↔ x < m ∧ 0 < upd op e o x) := fun es' hp x => by
      have hnd : (es' ++ [e]).Nodup := hp.nodup_iff.2 h1.nd
      rw [List.nodup_append] at hnd
      by_cases hx : x = e
      · subst hx
        rw [upd_same]
        exact ⟨fun hx => absurd rfl (hnd.2.2 x hx x (by simp)), fun hx => by omega⟩
      · rw [upd_far _ hx, ← h2 x, ← hp.mem_iff]
        simp [hx]
    rw [hei] at HR
    have hz : ((o : Int) == 0) = true := by subst o0; rfl
    clear h1 h2 Q1 hat ho ho2 hob h0 o0 hei he
    go_enter Try.func16, Try.ntmps16
    go_wp2_with fail
    (with_reducible refine HR.out.mono ?_)
    rintro r w2 ⟨⟨v, rfl⟩, es', at2, k1, k2, k3⟩
    have HQ : Hid (Qi w2 q m (upd op e o)) := ⟨es', at2, k1, HM.out es' k2⟩
    have HF2 := Lib.hid (HF1.out.trans k3)
    clear k1 k2 k3
    go_wp2_with fail
    refine bodyPost_ret (results_none rfl _ _ _) rfl ?_
    exact ⟨rfl, HQ.out, HF2.out⟩
  · have HR := Lib.hid (fix_any q m es at_ (upd op e o) _ Q1 i hi)
    have HM : Hid (∀ es' : List Nat, es'.Perm es → ∀ x, x ∈ es' ↔ x < m ∧ 0 < upd op e o x) := fun es' hp x => by
      rw [hp.mem_iff, h2]
      by_cases hx : x = e
      · subst hx
        rw [upd_same]
        exact ⟨fun hx => ⟨hx.1, by omega⟩, fun hx => ⟨hx.1, by omega⟩⟩
      · rw [upd_far _ hx]
    have hz : ((o : Int) == 0) = false := by simp; omega
    clear h1 h2 Q1 hat ho ho2 hob h0 o0 hei he
    go_enter Try.func16, Try.ntmps16
    go_wp2_with fail
    (with_reducible refine HR.out.mono ?_)
    rintro r w2 ⟨rfl, es', ⟨at2, k1⟩, k2, k3⟩
    have HQ : Hid (Qi w2 q m (upd op e o)) := ⟨es', at2, k1, HM.out es' k2⟩
    have HF2 := Lib.hid (HF1.out.trans k3)
    clear k1 k2 k3
    go_wp2_with fail
    go_end0
    exact ⟨rfl, HQ.out, HF2.out⟩
end Go.Proofs.Yticppgopblgkbaa
