/-
  As GrowK, where behind the last operation a variable is set. Nothing of the program's dump is named here.
-/
import Derived.Test.YtdfgdpgffblbpaaGrowK
import Derived.Test.YtdfgdpgffblbpaaGrowU
namespace Go.Proofs.Ytdfgdpgffblbpaa
open Go.RowKit Go.Sort
set_option linter.unusedVariables false

section
variable {P : Program} {ops : Array Oper} {Q : Exit → Act → World → Prop} {C : World → Prop} {last : Nat}

theorem growKU_last {i n : Nat} {listed : Array Bool} {a : Act} {w : World} (hr : Region.ready .any ops listed = [last]) (h2 : Region.ready .any ops (listed.setIfInBounds last true) = [i]) (hil : i ≠ last) (hd : Region.ready .any ops ((listed.setIfInBounds last true).setIfInBounds i true) = [])
    (h : ∀ K : Act → World → Prop, Shut (∀ a' w1, stepOf P ops (NoPanic Q) (fun a2 w2 => Q .normal a2 w2) a' w1 ops[i]? → K a' w1) → stepOf P ops (NoPanic Q) K a w ops[last]?) : wpAnyT P ops (NoPanic Q) C last (n + 2) listed a w := by
  refine wpAnyT_all hr (by simp) fun j hj => ?_
  obtain rfl : j = last := by simpa using hj
  have hone : ∀ {K : Act → World → Prop} {q : Nat} {a1 : Act} {w1 : World}, stepOf P ops (NoPanic Q) K a1 w1 ops[q]? → wpOp P ops (NoPanic Q) q K a1 w1 := fun {K q a1 w1} hs => by
    unfold wpOp
    cases ho : ops[q]? with
    | none => rw [ho] at hs; exact hs.elim
    | some o =>
      rw [ho] at hs
      simp only [stepOf] at hs
      show if Region.wanted o (yielded ops a1.tmps) = true then _ else _
      by_cases hwt : Region.wanted o (yielded ops a1.tmps) = true
      · rw [if_pos hwt] at hs ⊢; exact .inl hs
      · rw [if_neg hwt] at hs ⊢; exact hs
  refine hone (h _ (fun a' w1 hq => ⟨fun e => (by rw [getD_set_self] at e; cases e), ?_⟩))
  refine wpAnyT_all h2 (by simp) fun q hq' => ?_
  obtain rfl : q = i := by simpa using hq'
  refine wpOp_mono (fun a2 w2 hq2 => ⟨fun e => ?_, wpAnyT_done hd (NoPanic.normal hq2) n⟩) (hone hq)
  rw [getD_set_ne true hil, getD_set_self] at e
  cases e
end
end Go.Proofs.Ytdfgdpgffblbpaa
