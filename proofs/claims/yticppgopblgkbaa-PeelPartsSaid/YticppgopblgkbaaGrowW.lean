/-
  A statement that leaves its order open, whose calls write: all that it reads lies below what they write. One class of worlds, C, from beginning to end; the world itself is known at each step.
-/
import Derived.Test.YticppgopblgkbaaGrowV
import Derived.Below
namespace Go.Proofs.Yticppgopblgkbaa
open Go.RowKit Go.Sort
set_option linter.unusedVariables false

section
variable {P : Program} {ops : Array Oper} {Q : Exit → Act → World → Prop} {C : World → Prop}

/-- Worlds that have what W has. -/
structure LowW (W : World) where
  v : World
  h : Below W.heap.size W v
instance lowW_some (W : World) : Nonempty (LowW W) := ⟨⟨W, Below.refl _ _⟩⟩
theorem low_class {W w : World} (h : Below W.heap.size W w) : ∃ p : LowW W, w = p.v := ⟨⟨w, h⟩, rfl⟩
theorem of_low {W w : World} (h : ∃ p : LowW W, w = p.v) : Below W.heap.size W w := by
  obtain ⟨p, rfl⟩ := h; exact p.h

theorem growW_begin {id : Nat} {a : Act} {w : World} {l : List Oper} (hm : P.follows .mixedOrders = true) (hC : C w.drew)
    (h : wpAnyH P .any l.toArray (NoPanic Q) C l.length (Array.replicate l.length false) a w.drew) : (Code.region id l.toArray true).wp P Q a w := by
  refine wp_region_noPanic (wp_region_held_drew (S := C) hm hC fun hS => ?_)
  simpa using h
theorem growW_take (hs : Region.noSelect ops = true) : ∀ (is : List Nat) (n : Nat) (listed : Array Bool) (a : Act), takesB ops is listed = true → ∀ w, C w →
    wpQuiet P ops C (fun a' => wpAnyH P .any ops (NoPanic Q) C n (marks is listed) a' w) (opsAt ops is) a → wpAnyH P .any ops (NoPanic Q) C (n + is.length) listed a w
  | [], n, listed, a, _, w, hw, h => h
  | i :: is, n, listed, a, hB, w, hw, h => by
    simp only [takesB, Bool.and_eq_true] at hB
    obtain ⟨⟨⟨hr, hf⟩, hp⟩, hB'⟩ := hB
    cases ho : ops[i]? with
    | none => rw [ho] at hp; simp at hp
    | some o =>
      rw [ho] at hp
      have hp' : plainOp o.op = true := by simpa using hp
      simp only [opsAt, ho, wpQuiet] at h
      have key : ∃ v, YieldsIf P ops C o v a ∧ wpQuiet P ops C (fun a' => wpAnyH P .any ops (NoPanic Q) C n (marks is (listed.setIfInBounds i true)) a' w) (opsAt ops is) (a.put o.dst v) := by
        by_cases hwt : Region.wanted o (yielded ops a.tmps) = true
        · rw [if_pos hwt] at h
          obtain ⟨v, h1, h2⟩ := h
          exact ⟨v, yieldsIf_of_quiet hp' hwt h1, h2⟩
        · rw [if_neg hwt] at h
          exact ⟨undef, .inr ⟨by simpa using hwt, rfl⟩, h⟩
      obtain ⟨v, hy, hq⟩ := key
      exact wpAnyH_take ho hs hf hr (fun _ _ _ h => h) hy hw (growW_take hs is n (listed.setIfInBounds i true) (a.put o.dst v) hB' w hw hq)
theorem growW_one (i : Nat) {n : Nat} {listed : Array Bool} {a : Act} {w : World} (hr : Region.ready .any ops listed = [i])
    (h : ∀ K : Act → World → Prop, Shut (∀ a' w1, C w1 → wpAnyH P .any ops (NoPanic Q) C n (listed.setIfInBounds i true) a' w1 → K a' w1) →
      stepOf P ops (NoPanic Q) K a w ops[i]?) : wpAnyH P .any ops (NoPanic Q) C (n + 1) listed a w := by
  refine wpAnyH_all hr (by simp) fun j hj => ?_
  obtain rfl : j = i := by simpa using hj
  have hs := h (fun a' w' => C w' ∧ wpAnyH P .any ops (NoPanic Q) C n (listed.setIfInBounds j true) a' w') (fun a' w1 h1 h2 => ⟨h1, h2⟩)
  unfold wpOp
  cases ho : ops[j]? with
  | none => rw [ho] at hs; exact hs.elim
  | some o =>
    rw [ho] at hs
    simp only [stepOf] at hs
    show if Region.wanted o (yielded ops a.tmps) = true then _ else _
    by_cases hwt : Region.wanted o (yielded ops a.tmps) = true
    · rw [if_pos hwt] at hs ⊢; exact .inl hs
    · rw [if_neg hwt] at hs ⊢; exact hs
theorem growW_done {n : Nat} {listed : Array Bool} {a : Act} {w : World} (hr : Region.ready .any ops listed = []) (h : Q .normal a w) : wpAnyH P .any ops (NoPanic Q) C n listed a w :=
  wpAnyH_done hr (NoPanic.normal h) n
end
end Go.Proofs.Yticppgopblgkbaa
