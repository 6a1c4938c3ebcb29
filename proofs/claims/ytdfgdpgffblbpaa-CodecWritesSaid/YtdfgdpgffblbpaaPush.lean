/-
  One more at the end of a slice of slices of bytes that the call makes.
-/
import Derived.Test.YtdfgdpgffblbpaaMat
namespace Go.Proofs.Ytdfgdpgffblbpaa
open Go.ChangeShapes Go.WideShapes Go.ChangeAt Go.RowKit Go.Joins
set_option linter.unusedVariables false

theorem infoR : (Try.prog.info? 28).map (fun i => (i.zero, i.size, i.bytes)) = some (some (.slice none 0 0), 1, 24) := by kernel_rfl

theorem one_cell {w : World} {g : Nat} {u : Value} (h : w.cell? ⟨g, 0, none⟩ = some u) : ∀ j x, [u][j]? = some x → w.cell? ((⟨g, 0, none⟩ : Addr).add j) = some x := fun j x hx => by
  cases j with
  | zero => simp at hx; subst hx; simpa [Addr.add] using h
  | succ j => simp at hx

theorem wpList_push_rows {ops : Array Oper} {rest : List Oper} {o : Oper} {a : Act} {Q : Exit → Act → World → Prop} (w : World) (hgd : o.guard = none) (s x : Operand)
    (ho : o.op = .call { callee := .builtin .append, args := #[s, x], argTypes := #[52, 52] })
    (B : Nat) (v : Value) (ls : Rws) (hs : a.eval s = v) (hown : Own B w v ls) (g : Nat) (hx : a.eval x = .slice (some ⟨g, 0, none⟩) 1 1)
    (aa : Option Addr) (c : Nat) (l : List Nat) (hcell : w.cell? ⟨g, 0, none⟩ = some (.slice aa l.length c)) (hrw : Rw B w aa c l) (hB : B ≤ w.heap.size) (hlen : ls.length ≤ 100000)
    (h : ∀ v' w', Hid (Own B w' v' (ls ++ [l])) → Keep B w w' → wpList Try.prog ops Q rest (a.put o.dst v') w') : wpList Try.prog ops Q (o :: rest) a w := by
  obtain ⟨i0, hi, hz0, hz1, hz2⟩ := info_parts infoR
  obtain ⟨xs, ho1, hxs⟩ := hown
  refine wpList_append_own w hgd s x 52 ho B 28 i0 (.slice none 0 0) 1 24 Try.underlying52 hi hz0 hz1 hz2 rfl (by decide) v ls.length xs hs ho1 ⟨g, 0, none⟩ 1 1 [.slice aa l.length c] hx rfl (one_cell hcell) (by simp [Value.oneCell']) (by unfold maxLen; omega) (by omega) hB ?_
  intro v' w' h1 h2 _
  have hk : Keep B w w' := (Keep.refl B w).grown h2 (Other.of_own ho1 (by decide))
  refine h v' w' ⟨xs ++ [.slice aa l.length c], by simpa using h1, fun i hi' => ?_⟩ hk
  have hxl : xs.length = ls.length := by simpa using ho1.1
  by_cases e : i < ls.length
  · obtain ⟨a', c', e1, e2⟩ := hxs i e
    refine ⟨a', c', ?_, ?_⟩
    · rw [List.getElem_append_left e, List.getElem?_append_left (by omega)]; exact e1
    · rw [List.getElem_append_left e]; exact e2.keep hk
  · have e2 : i = ls.length := by simp at hi'; omega
    subst e2
    refine ⟨aa, c, ?_, ?_⟩
    · rw [List.getElem_append_right (Nat.le_refl _), List.getElem?_append_right (by omega)]
      simp [hxl]
    · rw [List.getElem_append_right (Nat.le_refl _)]
      simpa using hrw.keep hk

end Go.Proofs.Ytdfgdpgffblbpaa
