/-
  A statement that leaves its order open, whose operations write, the last one whatever it likes: any class of worlds up to the last one; the world itself is known at each step. Nothing of the program's dump is named here.
-/
import Derived.Test.YtdfgdpgffblbpaaGrowT
namespace Go.Proofs.Ytdfgdpgffblbpaa
open Go.RowKit Go.Sort
set_option linter.unusedVariables false

section
variable {P : Program} {ops : Array Oper} {Q : Exit → Act → World → Prop} {C : World → Prop} {last : Nat}

theorem growK_begin (last : Nat) (C : World → Prop) {id : Nat} {a : Act} {w : World} {l : List Oper} (hm : P.follows .mixedOrders = true)
    (h : wpAnyT P l.toArray (NoPanic Q) C last l.length (Array.replicate l.length false) a w.drew) : (Code.region id l.toArray true).wp P Q a w := by
  refine wp_region_noPanic (wp_region_any hm (wpAny_of_T (C := C) (last := last) _ _ _ _ ?_))
  rw [List.size_toArray]
  exact h
theorem growK_take (hs : Region.noSelect ops = true) : ∀ (is : List Nat) (n : Nat) (listed : Array Bool) (a : Act), takesT ops last is listed = true → ∀ w, C w →
    wpQuiet P ops C (fun a' => wpAnyT P ops (NoPanic Q) C last n (marks is listed) a' w) (opsAt ops is) a → wpAnyT P ops (NoPanic Q) C last (n + is.length) listed a w
  | [], n, listed, a, _, w, hw, h => h
  | i :: is, n, listed, a, hB, w, hw, h => by
    simp only [takesT, Bool.and_eq_true, Bool.or_eq_true, Bool.not_eq_true', beq_eq_false_iff_ne] at hB
    obtain ⟨⟨⟨⟨⟨hr, hf⟩, hk⟩, hil⟩, hp⟩, hB'⟩ := hB
    cases ho : ops[i]? with
    | none => rw [ho] at hp; simp at hp
    | some o =>
      rw [ho] at hp
      have hp' : plainOp o.op = true := by simpa using hp
      simp only [opsAt, ho, wpQuiet] at h
      have key : ∃ v, YieldsIf P ops C o v a ∧ wpQuiet P ops C (fun a' => wpAnyT P ops (NoPanic Q) C last n (marks is (listed.setIfInBounds i true)) a' w) (opsAt ops is) (a.put o.dst v) := by
        by_cases hwt : Region.wanted o (yielded ops a.tmps) = true
        · rw [if_pos hwt] at h
          obtain ⟨v, h1, h2⟩ := h
          exact ⟨v, yieldsIf_of_quiet hp' hwt h1, h2⟩
        · rw [if_neg hwt] at h
          exact ⟨undef, .inr ⟨by simpa using hwt, rfl⟩, h⟩
      obtain ⟨v, hy, hq⟩ := key
      have rest := growK_take hs is n (listed.setIfInBounds i true) (a.put o.dst v) hB' w hw hq
      cases hlo : loose ops i with
      | false =>
        rw [hlo] at hk
        obtain ⟨hk1, hk2⟩ := hk.resolve_left (by simp)
        exact wpAnyT_take ho hil hlo (sink_of hk1) hk2 hs hf hr (fun _ _ _ h => h) hy hw rest
      | true =>
        refine wpAnyT_loose ho hil hs hf hr (fun _ _ _ h => h) ?_ hw rest
        unfold loose at hlo
        rw [ho] at hlo
        obtain ⟨x, k, hop⟩ : ∃ x k, o.op = .extract x k := by
          cases hop : o.op <;> simp only [hop, Bool.false_eq_true] at hlo
          exact ⟨_, _, rfl⟩
        exact hy.imp (fun ⟨h1, h2⟩ => ⟨h1, fun w' _ => extract_any hop (h2 w hw) w'⟩) id
theorem growK_one (i : Nat) {n : Nat} {listed : Array Bool} {a : Act} {w : World} (hr : Region.ready .any ops listed = [i])
    (h : ∀ K : Act → World → Prop, Shut (∀ a' w1, C w1 → wpAnyT P ops (NoPanic Q) C last n (listed.setIfInBounds i true) a' w1 → K a' w1) →
      stepOf P ops (NoPanic Q) K a w ops[i]?) : wpAnyT P ops (NoPanic Q) C last (n + 1) listed a w := by
  refine wpAnyT_all hr (by simp) fun j hj => ?_
  obtain rfl : j = i := by simpa using hj
  have hs := h (fun a' w' => ((listed.setIfInBounds j true).getD last true = false → C w') ∧ wpAnyT P ops (NoPanic Q) C last n (listed.setIfInBounds j true) a' w') (fun a' w1 h1 h2 => ⟨fun _ => h1, h2⟩)
  unfold wpOp
  cases ho : ops[j]? with
  | none => rw [ho] at hs; exact hs.elim
  | some o =>
    rw [ho] at hs
    simp only [stepOf] at hs
    show if Region.wanted o (yielded ops a.tmps) = true then _ else _
    by_cases hwt : Region.wanted o (yielded ops a.tmps) = true
    · rw [if_pos hwt] at hs ⊢; exact .inl hs
    · rw [if_neg hwt] at hs ⊢; exact hs
theorem growK_last {n : Nat} {listed : Array Bool} {a : Act} {w : World} (hr : Region.ready .any ops listed = [last]) (hd : Region.ready .any ops (listed.setIfInBounds last true) = [])
    (h : ∀ K : Act → World → Prop, Shut (∀ a' w1, Q .normal a' w1 → K a' w1) → stepOf P ops (NoPanic Q) K a w ops[last]?) : wpAnyT P ops (NoPanic Q) C last (n + 1) listed a w := by
  refine wpAnyT_all hr (by simp) fun j hj => ?_
  obtain rfl : j = last := by simpa using hj
  have hs := h (fun a' w' => ((listed.setIfInBounds j true).getD j true = false → C w') ∧ wpAnyT P ops (NoPanic Q) C j n (listed.setIfInBounds j true) a' w') (fun a' w1 hq => ⟨fun e => (by rw [getD_set_self] at e; cases e), wpAnyT_done hd (NoPanic.normal hq) n⟩)
  unfold wpOp
  cases ho : ops[j]? with
  | none => rw [ho] at hs; exact hs.elim
  | some o =>
    rw [ho] at hs
    simp only [stepOf] at hs
    show if Region.wanted o (yielded ops a.tmps) = true then _ else _
    by_cases hwt : Region.wanted o (yielded ops a.tmps) = true
    · rw [if_pos hwt] at hs ⊢; exact .inl hs
    · rw [if_neg hwt] at hs ⊢; exact hs
end
end Go.Proofs.Ytdfgdpgffblbpaa
