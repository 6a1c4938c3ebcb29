/-
  One more at the end of a slice that the call makes: of slices of bytes, and of numbers.
-/
import Derived.Test.YtiglmoggpjgmbaaMat
namespace Go.Proofs.Ytiglmoggpjgmbaa
open Go.ChangeShapes Go.WideShapes Go.ChangeAt Go.RowKit Go.Joins
set_option linter.unusedVariables false

theorem infoR : (Try.prog.info? 32).map (fun i => (i.zero, i.size, i.bytes)) = some (some (.slice none 0 0), 1, 24) := by kernel_rfl
theorem infoI : (Try.prog.info? 3).map (fun i => (i.zero, i.size, i.bytes)) = some (some (.int .i64 0), 1, 8) := by kernel_rfl

theorem one_cell {w : World} {g : Nat} {u : Value} (h : w.cell? ⟨g, 0, none⟩ = some u) : ∀ j x, [u][j]? = some x → w.cell? ((⟨g, 0, none⟩ : Addr).add j) = some x := fun j x hx => by
  cases j with
  | zero => simp at hx; subst hx; simpa [Addr.add] using h
  | succ j => simp at hx

theorem wpList_push_rows {ops : Array Oper} {rest : List Oper} {o : Oper} {a : Act} {Q : Exit → Act → World → Prop} (w : World) (hgd : o.guard = none) (s x : Operand)
    (ho : o.op = .call { callee := .builtin .append, args := #[s, x], argTypes := #[22, 22] })
    (B : Nat) (v : Value) (ls : Rws) (hs : a.eval s = v) (hown : Own B w v ls) (g : Nat) (hx : a.eval x = .slice (some ⟨g, 0, none⟩) 1 1)
    (aa : Option Addr) (c : Nat) (l : List Nat) (hcell : w.cell? ⟨g, 0, none⟩ = some (.slice aa l.length c)) (hrw : Rw B w aa c l) (hB : B ≤ w.heap.size) (hlen : ls.length ≤ 100000)
    (h : ∀ v' w', Hid (Own B w' v' (ls ++ [l])) → Keep B w w' → wpList Try.prog ops Q rest (a.put o.dst v') w') : wpList Try.prog ops Q (o :: rest) a w := by
  obtain ⟨i0, hi, hz0, hz1, hz2⟩ := info_parts infoR
  obtain ⟨xs, ho1, hxs⟩ := hown
  refine wpList_append_own w hgd s x 22 ho B 32 i0 (.slice none 0 0) 1 24 Try.underlying22 hi hz0 hz1 hz2 rfl (by decide) v ls.length xs hs ho1 ⟨g, 0, none⟩ 1 1 [.slice aa l.length c] hx rfl (one_cell hcell) (by simp [Value.oneCell']) (by unfold maxLen; omega) (by omega) hB ?_
  intro v' w' h1 h2 _
  have hk : Keep B w w' := (Keep.refl B w).grown h2 (Other.of_own ho1 (by decide))
  refine h v' w' ⟨xs ++ [.slice aa l.length c], by simpa using h1, fun i hi' => ?_⟩ hk
  have hxl : xs.length = ls.length := by simpa using ho1.1
  by_cases e : i < ls.length
  · obtain ⟨a', c', e1, e2⟩ := hxs i e
    refine ⟨a', c', ?_, ?_⟩
    · rw [List.getElem_append_left e, List.getElem?_append_left (by omega)]; exact e1
    · rw [List.getElem_append_left e]; exact e2.keep hk
  · have e2 : i = ls.length := by simp at hi'; omega
    subst e2
    refine ⟨aa, c, ?_, ?_⟩
    · rw [List.getElem_append_right (Nat.le_refl _), List.getElem?_append_right (by omega)]
      simp [hxl]
    · rw [List.getElem_append_right (Nat.le_refl _)]
      simpa using hrw.keep hk

/-- A slice of numbers that this call makes, by append. -/
def OwnI (B : Nat) (w : World) (v : Value) (P : List Nat) : Prop := w.ownsRow B 3 1 v P.length (P.map fun n : Nat => Value.int .i64 (n : Int))
theorem OwnI.nil (B : Nat) (w : World) : OwnI B w (.slice none 0 0) [] := World.ownsRow_nil _ _ _ _
theorem OwnI.below {B : Nat} {w w' : World} {v : Value} {P : List Nat} (h : OwnI B w v P) (k : Below w.heap.size w w') : OwnI B w' v P := by
  refine World.ownsRow.kept (row := none) h ⟨k.os, k.tape, k.output, k.size, fun j hj _ => k.block j hj⟩ ?_
  cases hv : v.ownBlock with
  | none => exact .inl rfl
  | some g => exact .inr (by simp)
/-- Another kind's block is written. -/
theorem ne_kind {w : World} {B e1 e2 s1 s2 n1 n2 : Nat} {v1 v2 : Value} {x1 x2 : List Value} (h1 : w.ownsRow B e1 s1 v1 n1 x1) (h2 : w.ownsRow B e2 s2 v2 n2 x2) (hne : e1 ≠ e2) : v1.ownBlock = none ∨ v1.ownBlock ≠ v2.ownBlock := by
  rcases h1.2 with ⟨rfl, _⟩ | ⟨g, cap, cur, rfl, _, hh, _⟩
  · exact .inl rfl
  · refine .inr fun e => ?_
    rcases h2.2 with ⟨rfl, _⟩ | ⟨g', cap', cur', rfl, _, hh', _⟩
    · simp [Value.ownBlock] at e
    · have : g = g' := by simpa [Value.ownBlock] using e
      subst this
      rw [hh] at hh'
      injection hh' with hh'
      injection hh' with _ e3
      exact hne e3
theorem OwnI.form {B : Nat} {w : World} {v : Value} {P : List Nat} (h : OwnI B w v P) : ∃ a cap, v = .slice a P.length cap ∧ cap ≤ maxLen ∧ (P = [] ∨ ∃ b, a = some ⟨b, 0, none⟩ ∧ B ≤ b ∧ ∀ i (hi : i < P.length), w.cell? ⟨b, i, none⟩ = some (.int .i64 (P[i] : Nat))) := by
  rcases h.2 with ⟨rfl, hn⟩ | ⟨g, cap, cur, rfl, hb, hh, h1, h2, h3, h4⟩
  · have : P = [] := List.eq_nil_of_length_eq_zero hn
    subst this
    exact ⟨none, 0, rfl, by simp, .inl rfl⟩
  · refine ⟨_, cap, rfl, h2, .inr ⟨g, rfl, hb, fun i hi => ?_⟩⟩
    have := World.ownsRow.cells (v := .slice (some ⟨g, 0, none⟩) P.length cap) h (g := g) rfl i (.int .i64 (P[i] : Nat)) (by simp [hi])
    by_cases hi0 : i = 0
    · subst hi0; simpa [Addr.add] using this
    · simpa [Addr.add, hi0] using this

theorem wpList_push_int {ops : Array Oper} {rest : List Oper} {o : Oper} {a : Act} {Q : Exit → Act → World → Prop} (w : World) (hgd : o.guard = none) (s x : Operand)
    (ho : o.op = .call { callee := .builtin .append, args := #[s, x], argTypes := #[27, 27] })
    (B : Nat) (v : Value) (P : List Nat) (hs : a.eval s = v) (hown : OwnI B w v P) (g : Nat) (hx : a.eval x = .slice (some ⟨g, 0, none⟩) 1 1)
    (p : Nat) (hcell : w.cell? ⟨g, 0, none⟩ = some (.int .i64 (p : Int))) (hB : B ≤ w.heap.size) (hlen : P.length ≤ 100000)
    (h : ∀ v' w', Hid (OwnI B w' v' (P ++ [p])) → w.grownBy w' v.ownBlock → wpList Try.prog ops Q rest (a.put o.dst v') w') : wpList Try.prog ops Q (o :: rest) a w := by
  obtain ⟨i0, hi, hz0, hz1, hz2⟩ := info_parts infoI
  refine wpList_append_own w hgd s x 27 ho B 3 i0 (.int .i64 0) 1 8 Try.underlying27 hi hz0 hz1 hz2 rfl (by decide) v P.length _ hs hown ⟨g, 0, none⟩ 1 1 [.int .i64 (p : Int)] hx rfl (one_cell hcell) (by simp [Value.oneCell']) (by unfold maxLen; omega) (by omega) hB ?_
  intro v' w' h1 h2 _
  exact h v' w' (by show OwnI B w' v' (P ++ [p]); unfold OwnI; simpa using h1) h2
theorem OwnI.keep_push {B : Nat} {w w' : World} {v : Value} {P : List Nat} (h : OwnI B w v P) (hg : w.grownBy w' v.ownBlock) {a : World} (k : Keep B a w) : Keep B a w' := k.grown hg (Other.of_own h (by decide))
end Go.Proofs.Ytiglmoggpjgmbaa
