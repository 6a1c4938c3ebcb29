/-
  As GrowT, where behind the last operation a variable is set. Nothing of the program's dump is named here.
-/
import Derived.Test.YtdfgdpgffblbpaaGrowT
namespace Go.Proofs.Ytdfgdpgffblbpaa
open Go.RowKit Go.Sort
set_option linter.unusedVariables false

section
variable {P : Program} {ops : Array Oper} {Q : Exit → Act → World → Prop} {C : World → Prop} {last : Nat}

/-- A variable that is set: it may come up behind the last one. -/
def looseU (ops : Array Oper) (i : Nat) : Bool := match ops[i]? with
  | some o => (match o.op with | .assign .. => true | _ => false)
  | none => false
/-- Each operation that has not come up, but the last one and parts of tuples, is waited for by a later one that has not come up. -/
def SinkU (ops : Array Oper) (last : Nat) (listed : Array Bool) : Prop :=
  ∀ i, i ≠ last → looseU ops i = false → listed.getD i true = false → ∃ j oj, i < j ∧ (j = last ∨ looseU ops j = false) ∧ listed.getD j true = false ∧ ops[j]? = some oj ∧ ∃ e ∈ oj.after, Region.binds .any e = true ∧ e.on = i
def sinkUB (ops : Array Oper) (last : Nat) (listed : Array Bool) : Bool :=
  (List.range listed.size).all fun i => i == last || looseU ops i || listed.getD i true || (List.range listed.size).any fun j => decide (i < j) && (j == last || !looseU ops j) && !listed.getD j true && (match ops[j]? with | some oj => oj.after.any fun e => Region.binds .any e && e.on == i | none => false)
theorem sinkU_of {listed : Array Bool} (h : sinkUB ops last listed = true) : SinkU ops last listed := fun i hi hlo hu => by
  unfold sinkUB at h
  rw [List.all_eq_true] at h
  have h1 := h i (List.mem_range.2 (lt_of_unlisted hu))
  simp only [hu, hlo, Bool.or_false, Bool.or_eq_true, beq_iff_eq] at h1
  rcases h1 with h1 | h1
  · exact absurd h1 hi
  · obtain ⟨j, hj, h2⟩ := List.any_eq_true.1 h1
    simp only [Bool.and_eq_true, Bool.or_eq_true, beq_iff_eq, decide_eq_true_eq, Bool.not_eq_true'] at h2
    obtain ⟨⟨⟨h3, h3'⟩, h4⟩, h5⟩ := h2
    cases ho : ops[j]? with
    | none => rw [ho] at h5; simp at h5
    | some oj =>
      rw [ho] at h5
      obtain ⟨e, he, hb⟩ := Array.any_eq_true'.1 h5
      simp only [Bool.and_eq_true, beq_iff_eq] at hb
      exact ⟨j, oj, h3, h3', h4, ho, e, he, hb.1, hb.2⟩
theorem SinkU.set {listed : Array Bool} {r : Nat} (h : SinkU ops last listed) (hr : r ∈ Region.ready .any ops listed) : SinkU ops last (listed.setIfInBounds r true) := fun i hi hlo hu => by
  have hir : r ≠ i := fun e => by
    subst e
    have hlt := lt_of_unlisted (mem_ready.1 hr).1
    simp [hlt] at hu
  rw [getD_set_ne true hir] at hu
  obtain ⟨j, oj, h1, h1', h2, h3, e, he, hb, hon⟩ := h i hi hlo hu
  have hrj : r ≠ j := fun e' => by subst e'; exact unready hu h3 he hb hon hr
  exact ⟨j, oj, h1, h1', by rw [getD_set_ne true hrj]; exact h2, h3, e, he, hb, hon⟩
theorem SinkU.late {listed : Array Bool} (h : SinkU ops last listed) : ∀ (n i : Nat), listed.size - i ≤ n → i ≠ last → looseU ops i = false → listed.getD i true = false → last ∉ Region.ready .any ops listed
  | 0, i, hn, hi, _, hu => by have := lt_of_unlisted hu; omega
  | n + 1, i, hn, hi, hlo, hu => by
    obtain ⟨j, oj, h1, h1', h2, h3, e, he, hb, hon⟩ := h i hi hlo hu
    by_cases hj : j = last
    · subst hj; exact unready hu h3 he hb hon
    · exact SinkU.late h n j (by have := lt_of_unlisted hu; omega) hj (h1'.resolve_left hj) h2

theorem wpAnyU_first {i : Nat} {oi : Oper} {v : Value} (hi : ops[i]? = some oi) (hil : i ≠ last) (hlo : looseU ops i = false) (hsel : ∀ (j : Nat) (o : Oper) cs b, ops[j]? = some o → o.op ≠ .select cs b)
    (hQ : ∀ c a w, Q (.panic c) (a.put oi.dst v) w → Q (.panic c) a w) :
    ∀ (fuel : Nat) (listed : Array Bool) (a : Act) (w : World),
      (∀ j oj, ops[j]? = some oj → j ≠ i → listed.getD j true = false → (∀ e ∈ oj.after, Region.binds .any e = true → e.on ≠ i) → oi.apart ops oj = true) → SinkU ops last listed → listed.getD last true = false →
      i ∈ Region.ready .any ops listed → YieldsIf P ops C oi v a → C w →
      wpAnyT P ops Q C last fuel (listed.setIfInBounds i true) (a.put oi.dst v) w → wpAnyT P ops Q C last (fuel + 1) listed a w := by
  intro fuel
  induction fuel with
  | zero =>
    intro listed a w _ _ _ hr hy hS H
    refine ⟨fun h => (by rw [h] at hr; cases hr), fun j hj => ?_⟩
    by_cases hji : j = i
    · subst hji; exact hy.wpOp hi hS ⟨fun _ => hS, H⟩
    · have := ready_mono hj hji
      rw [H.1] at this
      cases this
  | succ fuel ih =>
    intro listed a w hfree hsink hlu hr hy hS H
    refine ⟨fun h => (by rw [h] at hr; cases hr), fun j hj => ?_⟩
    by_cases hji : j = i
    · subst hji; exact hy.wpOp hi hS ⟨fun _ => hS, H⟩
    · have hjl : j ≠ last := fun e => by
        subst e
        exact hsink.late listed.size i (by omega) hil hlo (mem_ready.1 hr).1 hj
      have h1 := H.2 j (ready_mono hj hji)
      obtain ⟨hjun, oj, hoj, hall⟩ := mem_ready.1 hj
      have hnot : ∀ e ∈ oj.after, Region.binds .any e = true → e.on ≠ i := fun e he hb heq => unready (mem_ready.1 hr).1 hoj he hb heq hj
      have h2 := wpOp_putIf hoj (hfree j oj hoj hji hjun hnot) (fun cs b => hsel i oi cs b hi) (fun cs b => hsel j oj cs b hoj) hQ hy h1
      have hfree' : ∀ k ok, ops[k]? = some ok → k ≠ i → (listed.setIfInBounds j true).getD k true = false →
          (∀ e ∈ ok.after, Region.binds .any e = true → e.on ≠ i) → oi.apart ops ok = true := fun k ok hk hki hun hno => by
        refine hfree k ok hk hki ?_ hno
        by_cases hjk : j = k
        · subst hjk; exact hjun
        · rw [getD_set_ne true hjk] at hun; exact hun
      have hlu2 : (listed.setIfInBounds j true).getD last true = false := by rw [getD_set_ne true hjl]; exact hlu
      have hlu3 : ((listed.setIfInBounds i true).setIfInBounds j true).getD last true = false := by rw [getD_set_ne true hjl, getD_set_ne true hil]; exact hlu
      refine wpOp_mono (fun a' w' h3 => ⟨fun _ => h3.2.1 hlu3, ih (listed.setIfInBounds j true) a' w' hfree' (hsink.set hj) hlu2 (ready_mono hr (Ne.symm hji)) h3.1 (h3.2.1 hlu3) ?_⟩) h2
      rw [Array.setIfInBounds_comm _ _ hji]
      exact h3.2.2

theorem wpAnyU_take {i : Nat} {oi : Oper} {v : Value} {fuel : Nat} {listed : Array Bool} {a : Act} {w : World} (hi : ops[i]? = some oi) (hil : i ≠ last) (hlo : looseU ops i = false) (hsink : SinkU ops last listed) (hlu : listed.getD last true = false)
    (hs : Region.noSelect ops = true) (hf : Region.free .any ops listed i = true) (hr : (Region.ready .any ops listed).contains i = true)
    (hQ : ∀ c a w, Q (.panic c) (a.put oi.dst v) w → Q (.panic c) a w) (hy : YieldsIf P ops C oi v a) (hS : C w)
    (h : wpAnyT P ops Q C last fuel (listed.setIfInBounds i true) (a.put oi.dst v) w) : wpAnyT P ops Q C last (fuel + 1) listed a w :=
  wpAnyU_first hi hil hlo (Region.noSelect_spec hs) hQ fuel listed a w (Region.free_spec hi hf) hsink hlu (by simpa using hr) hy hS h
/-- These operations may come up one behind the other, each plain, none the last one. -/
def takesU (ops : Array Oper) (last : Nat) : List Nat → Array Bool → Bool
  | [], _ => true
  | i :: is, listed => (Region.ready .any ops listed).contains i && Region.free .any ops listed i && (!looseU ops i && (sinkUB ops last listed && !listed.getD last true)) && !(i == last) && ((ops[i]?).map fun o => plainOp o.op).getD false && takesU ops last is (listed.setIfInBounds i true)

theorem growU_take (hs : Region.noSelect ops = true) : ∀ (is : List Nat) (n : Nat) (listed : Array Bool) (a : Act), takesU ops last is listed = true →
    wpQuiet P ops C (fun a' => ∀ w, C w → wpAnyT P ops (NoPanic Q) C last n (marks is listed) a' w) (opsAt ops is) a → ∀ w, C w → wpAnyT P ops (NoPanic Q) C last (n + is.length) listed a w
  | [], n, listed, a, _, h, w, hw => h w hw
  | i :: is, n, listed, a, hB, h, w, hw => by
    simp only [takesU, Bool.and_eq_true, Bool.not_eq_true', beq_eq_false_iff_ne] at hB
    obtain ⟨⟨⟨⟨⟨hr, hf⟩, hlo, hk1, hk2⟩, hil⟩, hp⟩, hB'⟩ := hB
    cases ho : ops[i]? with
    | none => rw [ho] at hp; simp at hp
    | some o =>
      rw [ho] at hp
      have hp' : plainOp o.op = true := by simpa using hp
      simp only [opsAt, ho, wpQuiet] at h
      have key : ∃ v, YieldsIf P ops C o v a ∧ wpQuiet P ops C (fun a' => ∀ w, C w → wpAnyT P ops (NoPanic Q) C last n (marks is (listed.setIfInBounds i true)) a' w) (opsAt ops is) (a.put o.dst v) := by
        by_cases hwt : Region.wanted o (yielded ops a.tmps) = true
        · rw [if_pos hwt] at h
          obtain ⟨v, h1, h2⟩ := h
          exact ⟨v, yieldsIf_of_quiet hp' hwt h1, h2⟩
        · rw [if_neg hwt] at h
          exact ⟨undef, .inr ⟨by simpa using hwt, rfl⟩, h⟩
      obtain ⟨v, hy, hq⟩ := key
      have rest := growU_take hs is n (listed.setIfInBounds i true) (a.put o.dst v) hB' hq w hw
      exact wpAnyU_take ho hil hlo (sinkU_of hk1) hk2 hs hf hr (fun _ _ _ h => h) hy hw rest

/-- The last one, and the variable that is set behind it. -/
theorem growU_last {i n : Nat} {listed : Array Bool} {a : Act} {w0 w : World} (hr : Region.ready .any ops listed = [last]) (h2 : Region.ready .any ops (listed.setIfInBounds last true) = [i]) (hil : i ≠ last) (hd : Region.ready .any ops ((listed.setIfInBounds last true).setIfInBounds i true) = [])
    (h : ∀ K : Act → World → Prop, Shut (∀ a' w1, stepOf P ops (NoPanic Q) (fun a2 w2 => Q .normal a2 w2) a' w1 ops[i]? → K a' w1) → stepOf P ops (NoPanic Q) K a w ops[last]?) : wpAnyT P ops (NoPanic Q) (fun w' => ∃ p : Regrown, w' = grow (redrawn w0 p.d) p.os) last (n + 2) listed a w := by
  refine wpAnyT_all hr (by simp) fun j hj => ?_
  obtain rfl : j = last := by simpa using hj
  have hone : ∀ {K : Act → World → Prop} {q : Nat} {a1 : Act} {w1 : World}, stepOf P ops (NoPanic Q) K a1 w1 ops[q]? → wpOp P ops (NoPanic Q) q K a1 w1 := fun {K q a1 w1} hs => by
    unfold wpOp
    cases ho : ops[q]? with
    | none => rw [ho] at hs; exact hs.elim
    | some o =>
      rw [ho] at hs
      simp only [stepOf] at hs
      show if Region.wanted o (yielded ops a1.tmps) = true then _ else _
      by_cases hwt : Region.wanted o (yielded ops a1.tmps) = true
      · rw [if_pos hwt] at hs ⊢; exact .inl hs
      · rw [if_neg hwt] at hs ⊢; exact hs
  refine hone (h _ (fun a' w1 hq => ⟨fun e => (by rw [getD_set_self] at e; cases e), ?_⟩))
  refine wpAnyT_all h2 (by simp) fun q hq' => ?_
  obtain rfl : q = i := by simpa using hq'
  refine wpOp_mono (fun a2 w2 hq2 => ⟨fun e => ?_, wpAnyT_done hd (NoPanic.normal hq2) n⟩) (hone hq)
  rw [getD_set_ne true hil, getD_set_self] at e
  cases e
end
end Go.Proofs.Ytdfgdpgffblbpaa
