/-
  As GrowT, where forced operations stand behind the last one that writes freely. Nothing of the program's dump is named here.
-/
import Derived.Test.YticppgopblgkbaaGrowT
namespace Go.Proofs.Yticppgopblgkbaa
open Go.RowKit Go.Sort
set_option linter.unusedVariables false

section
variable {P : Program} {ops : Array Oper} {Q : Exit → Act → World → Prop} {C : World → Prop} {last : Nat} {post : List Nat}

/-- Each operation that has not come up, but the last one and those behind it, is waited for by a later one that has not come up. -/
def SinkV (post : List Nat) (ops : Array Oper) (last : Nat) (listed : Array Bool) : Prop :=
  ∀ i, i ≠ last → post.contains i = false → listed.getD i true = false → ∃ j oj, i < j ∧ (j = last ∨ post.contains j = false) ∧ listed.getD j true = false ∧ ops[j]? = some oj ∧ ∃ e ∈ oj.after, Region.binds .any e = true ∧ e.on = i
def sinkVB (post : List Nat) (ops : Array Oper) (last : Nat) (listed : Array Bool) : Bool :=
  (List.range listed.size).all fun i => i == last || post.contains i || listed.getD i true || (List.range listed.size).any fun j => decide (i < j) && (j == last || !post.contains j) && !listed.getD j true && (match ops[j]? with | some oj => oj.after.any fun e => Region.binds .any e && e.on == i | none => false)
theorem sinkV_of {listed : Array Bool} (h : sinkVB post ops last listed = true) : SinkV post ops last listed := fun i hi hlo hu => by
  unfold sinkVB at h
  rw [List.all_eq_true] at h
  have h1 := h i (List.mem_range.2 (lt_of_unlisted hu))
  simp only [hu, hlo, Bool.or_false, Bool.or_eq_true, beq_iff_eq] at h1
  rcases h1 with h1 | h1
  · exact absurd h1 hi
  · obtain ⟨j, hj, h2⟩ := List.any_eq_true.1 h1
    simp only [Bool.and_eq_true, Bool.or_eq_true, beq_iff_eq, decide_eq_true_eq, Bool.not_eq_true'] at h2
    obtain ⟨⟨⟨h3, h3'⟩, h4⟩, h5⟩ := h2
    cases ho : ops[j]? with
    | none => rw [ho] at h5; simp at h5
    | some oj =>
      rw [ho] at h5
      obtain ⟨e, he, hb⟩ := Array.any_eq_true'.1 h5
      simp only [Bool.and_eq_true, beq_iff_eq] at hb
      exact ⟨j, oj, h3, h3', h4, ho, e, he, hb.1, hb.2⟩
theorem SinkV.set {listed : Array Bool} {r : Nat} (h : SinkV post ops last listed) (hr : r ∈ Region.ready .any ops listed) : SinkV post ops last (listed.setIfInBounds r true) := fun i hi hlo hu => by
  have hir : r ≠ i := fun e => by
    subst e
    have hlt := lt_of_unlisted (mem_ready.1 hr).1
    simp [hlt] at hu
  rw [getD_set_ne true hir] at hu
  obtain ⟨j, oj, h1, h1', h2, h3, e, he, hb, hon⟩ := h i hi hlo hu
  have hrj : r ≠ j := fun e' => by subst e'; exact unready hu h3 he hb hon hr
  exact ⟨j, oj, h1, h1', by rw [getD_set_ne true hrj]; exact h2, h3, e, he, hb, hon⟩
theorem SinkV.late {listed : Array Bool} (h : SinkV post ops last listed) : ∀ (n i : Nat), listed.size - i ≤ n → i ≠ last → post.contains i = false → listed.getD i true = false → last ∉ Region.ready .any ops listed
  | 0, i, hn, hi, _, hu => by have := lt_of_unlisted hu; omega
  | n + 1, i, hn, hi, hlo, hu => by
    obtain ⟨j, oj, h1, h1', h2, h3, e, he, hb, hon⟩ := h i hi hlo hu
    by_cases hj : j = last
    · subst hj; exact unready hu h3 he hb hon
    · exact SinkV.late h n j (by have := lt_of_unlisted hu; omega) hj (h1'.resolve_left hj) h2

theorem wpAnyV_first {i : Nat} {oi : Oper} {v : Value} (hi : ops[i]? = some oi) (hil : i ≠ last) (hlo : post.contains i = false) (hsel : ∀ (j : Nat) (o : Oper) cs b, ops[j]? = some o → o.op ≠ .select cs b)
    (hQ : ∀ c a w, Q (.panic c) (a.put oi.dst v) w → Q (.panic c) a w) :
    ∀ (fuel : Nat) (listed : Array Bool) (a : Act) (w : World),
      (∀ j oj, ops[j]? = some oj → j ≠ i → listed.getD j true = false → (∀ e ∈ oj.after, Region.binds .any e = true → e.on ≠ i) → oi.apart ops oj = true) → SinkV post ops last listed → listed.getD last true = false →
      i ∈ Region.ready .any ops listed → YieldsIf P ops C oi v a → C w →
      wpAnyT P ops Q C last fuel (listed.setIfInBounds i true) (a.put oi.dst v) w → wpAnyT P ops Q C last (fuel + 1) listed a w := by
  intro fuel
  induction fuel with
  | zero =>
    intro listed a w _ _ _ hr hy hS H
    refine ⟨fun h => (by rw [h] at hr; cases hr), fun j hj => ?_⟩
    by_cases hji : j = i
    · subst hji; exact hy.wpOp hi hS ⟨fun _ => hS, H⟩
    · have := ready_mono hj hji
      rw [H.1] at this
      cases this
  | succ fuel ih =>
    intro listed a w hfree hsink hlu hr hy hS H
    refine ⟨fun h => (by rw [h] at hr; cases hr), fun j hj => ?_⟩
    by_cases hji : j = i
    · subst hji; exact hy.wpOp hi hS ⟨fun _ => hS, H⟩
    · have hjl : j ≠ last := fun e => by
        subst e
        exact hsink.late listed.size i (by omega) hil hlo (mem_ready.1 hr).1 hj
      have h1 := H.2 j (ready_mono hj hji)
      obtain ⟨hjun, oj, hoj, hall⟩ := mem_ready.1 hj
      have hnot : ∀ e ∈ oj.after, Region.binds .any e = true → e.on ≠ i := fun e he hb heq => unready (mem_ready.1 hr).1 hoj he hb heq hj
      have h2 := wpOp_putIf hoj (hfree j oj hoj hji hjun hnot) (fun cs b => hsel i oi cs b hi) (fun cs b => hsel j oj cs b hoj) hQ hy h1
      have hfree' : ∀ k ok, ops[k]? = some ok → k ≠ i → (listed.setIfInBounds j true).getD k true = false →
          (∀ e ∈ ok.after, Region.binds .any e = true → e.on ≠ i) → oi.apart ops ok = true := fun k ok hk hki hun hno => by
        refine hfree k ok hk hki ?_ hno
        by_cases hjk : j = k
        · subst hjk; exact hjun
        · rw [getD_set_ne true hjk] at hun; exact hun
      have hlu2 : (listed.setIfInBounds j true).getD last true = false := by rw [getD_set_ne true hjl]; exact hlu
      have hlu3 : ((listed.setIfInBounds i true).setIfInBounds j true).getD last true = false := by rw [getD_set_ne true hjl, getD_set_ne true hil]; exact hlu
      refine wpOp_mono (fun a' w' h3 => ⟨fun _ => h3.2.1 hlu3, ih (listed.setIfInBounds j true) a' w' hfree' (hsink.set hj) hlu2 (ready_mono hr (Ne.symm hji)) h3.1 (h3.2.1 hlu3) ?_⟩) h2
      rw [Array.setIfInBounds_comm _ _ hji]
      exact h3.2.2

theorem wpAnyV_take {i : Nat} {oi : Oper} {v : Value} {fuel : Nat} {listed : Array Bool} {a : Act} {w : World} (hi : ops[i]? = some oi) (hil : i ≠ last) (hlo : post.contains i = false) (hsink : SinkV post ops last listed) (hlu : listed.getD last true = false)
    (hs : Region.noSelect ops = true) (hf : Region.free .any ops listed i = true) (hr : (Region.ready .any ops listed).contains i = true)
    (hQ : ∀ c a w, Q (.panic c) (a.put oi.dst v) w → Q (.panic c) a w) (hy : YieldsIf P ops C oi v a) (hS : C w)
    (h : wpAnyT P ops Q C last fuel (listed.setIfInBounds i true) (a.put oi.dst v) w) : wpAnyT P ops Q C last (fuel + 1) listed a w :=
  wpAnyV_first hi hil hlo (Region.noSelect_spec hs) hQ fuel listed a w (Region.free_spec hi hf) hsink hlu (by simpa using hr) hy hS h
/-- A plain move hangs on no world: it may come up behind the last one. -/
def isMove (ops : Array Oper) (i : Nat) : Bool := match ops[i]? with
  | some o => (match o.op with | .move .. => true | _ => false)
  | none => false
theorem move_any {o : Oper} {ρ : Operand → Value} {w : World} {v : Value} {x : Operand} (ho : o.op = .move x) (h : (execOp ρ o).run P w = .ok (.value v) w) : ∀ w', (execOp ρ o).run P w' = .ok (.value v) w' := fun w' => by
  obtain ⟨dst, op, type, pos, after, guard⟩ := o
  simp only at ho
  subst ho
  simp only [execOp, Sem.run_pure] at h ⊢
  cases h
  rfl
/-- These operations may come up one behind the other, each plain, none the last one. -/
def takesV (post : List Nat) (ops : Array Oper) (last : Nat) : List Nat → Array Bool → Bool
  | [], _ => true
  | i :: is, listed => (Region.ready .any ops listed).contains i && Region.free .any ops listed i && ((post.contains i && isMove ops i) || (!post.contains i && (sinkVB post ops last listed && !listed.getD last true))) && !(i == last) && ((ops[i]?).map fun o => plainOp o.op).getD false && takesV post ops last is (listed.setIfInBounds i true)

theorem growV_take (hs : Region.noSelect ops = true) : ∀ (is : List Nat) (n : Nat) (listed : Array Bool) (a : Act), takesV post ops last is listed = true →
    wpQuiet P ops C (fun a' => ∀ w, C w → wpAnyT P ops (NoPanic Q) C last n (marks is listed) a' w) (opsAt ops is) a → ∀ w, C w → wpAnyT P ops (NoPanic Q) C last (n + is.length) listed a w
  | [], n, listed, a, _, h, w, hw => h w hw
  | i :: is, n, listed, a, hB, h, w, hw => by
    simp only [takesV, Bool.and_eq_true, Bool.or_eq_true, Bool.not_eq_true', beq_eq_false_iff_ne] at hB
    obtain ⟨⟨⟨⟨⟨hr, hf⟩, hk⟩, hil⟩, hp⟩, hB'⟩ := hB
    cases ho : ops[i]? with
    | none => rw [ho] at hp; simp at hp
    | some o =>
      rw [ho] at hp
      have hp' : plainOp o.op = true := by simpa using hp
      simp only [opsAt, ho, wpQuiet] at h
      have key : ∃ v, YieldsIf P ops C o v a ∧ wpQuiet P ops C (fun a' => ∀ w, C w → wpAnyT P ops (NoPanic Q) C last n (marks is (listed.setIfInBounds i true)) a' w) (opsAt ops is) (a.put o.dst v) := by
        by_cases hwt : Region.wanted o (yielded ops a.tmps) = true
        · rw [if_pos hwt] at h
          obtain ⟨v, h1, h2⟩ := h
          exact ⟨v, yieldsIf_of_quiet hp' hwt h1, h2⟩
        · rw [if_neg hwt] at h
          exact ⟨undef, .inr ⟨by simpa using hwt, rfl⟩, h⟩
      obtain ⟨v, hy, hq⟩ := key
      have rest := growV_take hs is n (listed.setIfInBounds i true) (a.put o.dst v) hB' hq w hw
      rcases hk with ⟨-, hlo⟩ | ⟨hlo, hk1, hk2⟩
      · refine wpAnyT_loose ho hil hs hf hr (fun _ _ _ h => h) ?_ hw rest
        unfold isMove at hlo
        rw [ho] at hlo
        obtain ⟨x, hop⟩ : ∃ x, o.op = .move x := by
          cases hop : o.op <;> simp only [hop, Bool.false_eq_true] at hlo
          exact ⟨_, rfl⟩
        exact hy.imp (fun ⟨h1, h2⟩ => ⟨h1, fun w' _ => move_any hop (h2 w hw) w'⟩) id
      · exact wpAnyV_take ho hil hlo (sinkV_of hk1) hk2 hs hf hr (fun _ _ _ h => h) hy hw rest


theorem step_op {K : Act → World → Prop} {q : Nat} {a1 : Act} {w1 : World} (hs : stepOf P ops (NoPanic Q) K a1 w1 ops[q]?) : wpOp P ops (NoPanic Q) q K a1 w1 := by
  unfold wpOp
  cases ho : ops[q]? with
  | none => rw [ho] at hs; exact hs.elim
  | some o =>
    rw [ho] at hs
    simp only [stepOf] at hs
    show if Region.wanted o (yielded ops a1.tmps) = true then _ else _
    by_cases hwt : Region.wanted o (yielded ops a1.tmps) = true
    · rw [if_pos hwt] at hs ⊢; exact .inl hs
    · rw [if_neg hwt] at hs ⊢; exact hs
/-- The one that writes freely: more may come behind it. -/
theorem growV_last {n : Nat} {listed : Array Bool} {a : Act} {w : World} (hr : Region.ready .any ops listed = [last])
    (h : ∀ K : Act → World → Prop, Shut (∀ a' w1, wpAnyT P ops (NoPanic Q) C last n (listed.setIfInBounds last true) a' w1 → K a' w1) → stepOf P ops (NoPanic Q) K a w ops[last]?) : wpAnyT P ops (NoPanic Q) C last (n + 1) listed a w := by
  refine wpAnyT_all hr (by simp) fun j hj => ?_
  obtain rfl : j = last := by simpa using hj
  exact step_op (h _ (fun a' w1 hq => ⟨fun e => (by rw [getD_set_self] at e; cases e), hq⟩))
/-- One behind it, which alone may come up. -/
theorem growV_then (i : Nat) {n : Nat} {listed : Array Bool} {a : Act} {w : World} (hr : Region.ready .any ops listed = [i]) (hl : listed.getD last true = true) (hil : i ≠ last)
    (h : ∀ K : Act → World → Prop, Shut (∀ a' w1, wpAnyT P ops (NoPanic Q) C last n (listed.setIfInBounds i true) a' w1 → K a' w1) → stepOf P ops (NoPanic Q) K a w ops[i]?) : wpAnyT P ops (NoPanic Q) C last (n + 1) listed a w := by
  refine wpAnyT_all hr (by simp) fun j hj => ?_
  obtain rfl : j = i := by simpa using hj
  refine step_op (h _ (fun a' w1 hq => ⟨fun e => ?_, hq⟩))
  rw [getD_set_ne true hil, hl] at e
  cases e
theorem growV_done {n : Nat} {listed : Array Bool} {a : Act} {w : World} (hr : Region.ready .any ops listed = []) (h : Q .normal a w) : wpAnyT P ops (NoPanic Q) C last n listed a w := wpAnyT_done hr (NoPanic.normal h) n
end
end Go.Proofs.Yticppgopblgkbaa
