/-
  A statement that leaves its order open, makes memory, and writes old memory by its last operation alone, which waits for all others. As Grow, but the last operation may leave the class of worlds. Nothing of the program's dump is named here.
  A statement that leaves its order open, whose operations write, the last one whatever it likes: any class of worlds up to the last one; the world itself is known at each step. Nothing of the program's dump is named here.
  As GrowT, where behind the last operation a variable is set. Nothing of the program's dump is named here.
  As GrowK, where behind the last operation a variable is set. Nothing of the program's dump is named here.
  Statements that leave their order open and write: a class of worlds in which all but some blocks stay.
  Layer 13's law CodecWrites: an Out, the row of bytes beside it, and the item at hand.
  Bytes gathered by append, in a document's text: an account that says where they lie; the document's Main and Symbol.
-/
import Derived.Test.YtfgaohilpbocbaaGreatDoorMm3
section
namespace Go.Proofs.YtfgaohilpbocbaaGreatDoor
open Go.RowKit Go.Sort
set_option linter.unusedVariables false

section
variable {P : Program} {ops : Array Oper} {Q : Exit → Act → World → Prop} {C : World → Prop} {last : Nat}

/-- Whatever order is picked from here on; behind each operation but the last one the class is kept. -/
def wpAnyT (P : Program) (ops : Array Oper) (Q : Exit → Act → World → Prop) (C : World → Prop) (last : Nat) : Nat → Array Bool → Act → World → Prop
  | 0, listed, a, w => Region.ready .any ops listed = [] ∧ Q .normal a w
  | fuel + 1, listed, a, w =>
    (Region.ready .any ops listed = [] → Q .normal a w) ∧
    ∀ i ∈ Region.ready .any ops listed, wpOp P ops Q i (fun a' w' => ((listed.setIfInBounds i true).getD last true = false → C w') ∧ wpAnyT P ops Q C last fuel (listed.setIfInBounds i true) a' w') a w

theorem wpAny_of_T : ∀ (fuel : Nat) (listed : Array Bool) (a : Act) (w : World), wpAnyT P ops Q C last fuel listed a w → wpAny P .any ops Q fuel listed a w
  | 0, _, _, _, h => h
  | fuel + 1, _, _, _, h => ⟨h.1, fun i hi => wpOp_mono (fun a' w' h' => wpAny_of_T fuel _ a' w' h'.2) (h.2 i hi)⟩

/-- A part of a tuple: it hangs on no world, so it may come up behind the last one. -/
def loose (ops : Array Oper) (i : Nat) : Bool := match ops[i]? with
  | some o => (match o.op with | .extract .. => true | _ => false)
  | none => false
/-- Each operation that has not come up, but the last one and parts of tuples, is waited for by a later one that has not come up. -/
def Sink (ops : Array Oper) (last : Nat) (listed : Array Bool) : Prop :=
  ∀ i, i ≠ last → loose ops i = false → listed.getD i true = false → ∃ j oj, i < j ∧ (j = last ∨ loose ops j = false) ∧ listed.getD j true = false ∧ ops[j]? = some oj ∧ ∃ e ∈ oj.after, Region.binds .any e = true ∧ e.on = i
def sinkB (ops : Array Oper) (last : Nat) (listed : Array Bool) : Bool :=
  (List.range listed.size).all fun i => i == last || loose ops i || listed.getD i true || (List.range listed.size).any fun j => decide (i < j) && (j == last || !loose ops j) && !listed.getD j true && (match ops[j]? with | some oj => oj.after.any fun e => Region.binds .any e && e.on == i | none => false)
theorem lt_of_unlisted {listed : Array Bool} {i : Nat} (h : listed.getD i true = false) : i < listed.size := by
  rcases Nat.lt_or_ge i listed.size with h' | h'
  · exact h'
  · simp [Array.getElem?_eq_none h'] at h
theorem sink_of {listed : Array Bool} (h : sinkB ops last listed = true) : Sink ops last listed := fun i hi hlo hu => by
  unfold sinkB at h
  rw [List.all_eq_true] at h
  have h1 := h i (List.mem_range.2 (lt_of_unlisted hu))
  simp only [hu, hlo, Bool.or_false, Bool.or_eq_true, beq_iff_eq] at h1
  rcases h1 with h1 | h1
  · exact absurd h1 hi
  · obtain ⟨j, hj, h2⟩ := List.any_eq_true.1 h1
    simp only [Bool.and_eq_true, Bool.or_eq_true, beq_iff_eq, decide_eq_true_eq, Bool.not_eq_true'] at h2
    obtain ⟨⟨⟨h3, h3'⟩, h4⟩, h5⟩ := h2
    cases ho : ops[j]? with
    | none => rw [ho] at h5; simp at h5
    | some oj =>
      rw [ho] at h5
      obtain ⟨e, he, hb⟩ := Array.any_eq_true'.1 h5
      simp only [Bool.and_eq_true, beq_iff_eq] at hb
      exact ⟨j, oj, h3, h3', h4, ho, e, he, hb.1, hb.2⟩
theorem unready {listed : Array Bool} {i j : Nat} {oj : Oper} (hi : listed.getD i true = false) (ho : ops[j]? = some oj) {e} (he : e ∈ oj.after) (hb : Region.binds .any e = true) (hon : e.on = i) : j ∉ Region.ready .any ops listed := fun hj => by
  obtain ⟨_, o, ho', hall⟩ := mem_ready.1 hj
  have : o = oj := Option.some.inj (ho'.symm.trans ho)
  subst this
  have h1 := hall e he hb
  rw [hon] at h1
  have hlt := lt_of_unlisted hi
  simp [hlt] at hi h1
  rw [hi] at h1; cases h1
theorem Sink.set {listed : Array Bool} {r : Nat} (h : Sink ops last listed) (hr : r ∈ Region.ready .any ops listed) : Sink ops last (listed.setIfInBounds r true) := fun i hi hlo hu => by
  have hir : r ≠ i := fun e => by
    subst e
    have hlt := lt_of_unlisted (mem_ready.1 hr).1
    simp [hlt] at hu
  rw [getD_set_ne true hir] at hu
  obtain ⟨j, oj, h1, h1', h2, h3, e, he, hb, hon⟩ := h i hi hlo hu
  have hrj : r ≠ j := fun e' => by subst e'; exact unready hu h3 he hb hon hr
  exact ⟨j, oj, h1, h1', by rw [getD_set_ne true hrj]; exact h2, h3, e, he, hb, hon⟩
theorem Sink.late {listed : Array Bool} (h : Sink ops last listed) : ∀ (n i : Nat), listed.size - i ≤ n → i ≠ last → loose ops i = false → listed.getD i true = false → last ∉ Region.ready .any ops listed
  | 0, i, hn, hi, _, hu => by have := lt_of_unlisted hu; omega
  | n + 1, i, hn, hi, hlo, hu => by
    obtain ⟨j, oj, h1, h1', h2, h3, e, he, hb, hon⟩ := h i hi hlo hu
    by_cases hj : j = last
    · subst hj; exact unready hu h3 he hb hon
    · exact Sink.late h n j (by have := lt_of_unlisted hu; omega) hj (h1'.resolve_left hj) h2

theorem getD_set_self (listed : Array Bool) (i : Nat) : (listed.setIfInBounds i true).getD i true = true := by
  rcases Nat.lt_or_ge i listed.size with h | h
  · simp [h]
  · simp [Array.getElem?_eq_none (show (listed.setIfInBounds i true).size ≤ i by simpa using h)]

theorem wpAnyT_first {i : Nat} {oi : Oper} {v : Value} (hi : ops[i]? = some oi) (hil : i ≠ last) (hlo : loose ops i = false) (hsel : ∀ (j : Nat) (o : Oper) cs b, ops[j]? = some o → o.op ≠ .select cs b)
    (hQ : ∀ c a w, Q (.panic c) (a.put oi.dst v) w → Q (.panic c) a w) :
    ∀ (fuel : Nat) (listed : Array Bool) (a : Act) (w : World),
      (∀ j oj, ops[j]? = some oj → j ≠ i → listed.getD j true = false → (∀ e ∈ oj.after, Region.binds .any e = true → e.on ≠ i) → oi.apart ops oj = true) → Sink ops last listed → listed.getD last true = false →
      i ∈ Region.ready .any ops listed → YieldsIf P ops C oi v a → C w →
      wpAnyT P ops Q C last fuel (listed.setIfInBounds i true) (a.put oi.dst v) w → wpAnyT P ops Q C last (fuel + 1) listed a w := by
  intro fuel
  induction fuel with
  | zero =>
    intro listed a w _ _ _ hr hy hS H
    refine ⟨fun h => (by rw [h] at hr; cases hr), fun j hj => ?_⟩
    by_cases hji : j = i
    · subst hji; exact hy.wpOp hi hS ⟨fun _ => hS, H⟩
    · have := ready_mono hj hji
      rw [H.1] at this
      cases this
  | succ fuel ih =>
    intro listed a w hfree hsink hlu hr hy hS H
    refine ⟨fun h => (by rw [h] at hr; cases hr), fun j hj => ?_⟩
    by_cases hji : j = i
    · subst hji; exact hy.wpOp hi hS ⟨fun _ => hS, H⟩
    · have hjl : j ≠ last := fun e => by
        subst e
        exact hsink.late listed.size i (by omega) hil hlo (mem_ready.1 hr).1 hj
      have h1 := H.2 j (ready_mono hj hji)
      obtain ⟨hjun, oj, hoj, hall⟩ := mem_ready.1 hj
      have hnot : ∀ e ∈ oj.after, Region.binds .any e = true → e.on ≠ i := fun e he hb heq => unready (mem_ready.1 hr).1 hoj he hb heq hj
      have h2 := wpOp_putIf hoj (hfree j oj hoj hji hjun hnot) (fun cs b => hsel i oi cs b hi) (fun cs b => hsel j oj cs b hoj) hQ hy h1
      have hfree' : ∀ k ok, ops[k]? = some ok → k ≠ i → (listed.setIfInBounds j true).getD k true = false →
          (∀ e ∈ ok.after, Region.binds .any e = true → e.on ≠ i) → oi.apart ops ok = true := fun k ok hk hki hun hno => by
        refine hfree k ok hk hki ?_ hno
        by_cases hjk : j = k
        · subst hjk; exact hjun
        · rw [getD_set_ne true hjk] at hun; exact hun
      have hlu2 : (listed.setIfInBounds j true).getD last true = false := by rw [getD_set_ne true hjl]; exact hlu
      have hlu3 : ((listed.setIfInBounds i true).setIfInBounds j true).getD last true = false := by rw [getD_set_ne true hjl, getD_set_ne true hil]; exact hlu
      refine wpOp_mono (fun a' w' h3 => ⟨fun _ => h3.2.1 hlu3, ih (listed.setIfInBounds j true) a' w' hfree' (hsink.set hj) hlu2 (ready_mono hr (Ne.symm hji)) h3.1 (h3.2.1 hlu3) ?_⟩) h2
      rw [Array.setIfInBounds_comm _ _ hji]
      exact h3.2.2

/-- What hangs on no world may be taken first, whatever else is left. -/
theorem wpAnyT_pure {i : Nat} {oi : Oper} {v : Value} (hi : ops[i]? = some oi) (hil : i ≠ last) (hsel : ∀ (j : Nat) (o : Oper) cs b, ops[j]? = some o → o.op ≠ .select cs b)
    (hQ : ∀ c a w, Q (.panic c) (a.put oi.dst v) w → Q (.panic c) a w) :
    ∀ (fuel : Nat) (listed : Array Bool) (a : Act) (w : World),
      (∀ j oj, ops[j]? = some oj → j ≠ i → listed.getD j true = false → (∀ e ∈ oj.after, Region.binds .any e = true → e.on ≠ i) → oi.apart ops oj = true) →
      i ∈ Region.ready .any ops listed → YieldsIf P ops (fun _ => True) oi v a → (listed.getD last true = false → C w) →
      wpAnyT P ops Q C last fuel (listed.setIfInBounds i true) (a.put oi.dst v) w → wpAnyT P ops Q C last (fuel + 1) listed a w := by
  intro fuel
  induction fuel with
  | zero =>
    intro listed a w _ hr hy hS H
    refine ⟨fun h => (by rw [h] at hr; cases hr), fun j hj => ?_⟩
    by_cases hji : j = i
    · subst hji; exact hy.wpOp hi trivial ⟨fun h => hS (by rwa [getD_set_ne true hil] at h), H⟩
    · have := ready_mono hj hji
      rw [H.1] at this
      cases this
  | succ fuel ih =>
    intro listed a w hfree hr hy hS H
    refine ⟨fun h => (by rw [h] at hr; cases hr), fun j hj => ?_⟩
    by_cases hji : j = i
    · subst hji; exact hy.wpOp hi trivial ⟨fun h => hS (by rwa [getD_set_ne true hil] at h), H⟩
    · have h1 := H.2 j (ready_mono hj hji)
      obtain ⟨hjun, oj, hoj, hall⟩ := mem_ready.1 hj
      have hnot : ∀ e ∈ oj.after, Region.binds .any e = true → e.on ≠ i := fun e he hb heq => unready (mem_ready.1 hr).1 hoj he hb heq hj
      have h2 := wpOp_putIf hoj (hfree j oj hoj hji hjun hnot) (fun cs b => hsel i oi cs b hi) (fun cs b => hsel j oj cs b hoj) hQ hy h1
      have hfree' : ∀ k ok, ops[k]? = some ok → k ≠ i → (listed.setIfInBounds j true).getD k true = false →
          (∀ e ∈ ok.after, Region.binds .any e = true → e.on ≠ i) → oi.apart ops ok = true := fun k ok hk hki hun hno => by
        refine hfree k ok hk hki ?_ hno
        by_cases hjk : j = k
        · subst hjk; exact hjun
        · rw [getD_set_ne true hjk] at hun; exact hun
      have hsame : ((listed.setIfInBounds i true).setIfInBounds j true).getD last true = (listed.setIfInBounds j true).getD last true := by
        rw [Array.setIfInBounds_comm _ _ (Ne.symm hji), getD_set_ne true hil]
      refine wpOp_mono (fun a' w' h3 => ⟨fun h => h3.2.1 (hsame.trans h), ih (listed.setIfInBounds j true) a' w' hfree' (ready_mono hr (Ne.symm hji)) h3.1 (fun h => h3.2.1 (hsame.trans h)) ?_⟩) h2
      rw [Array.setIfInBounds_comm _ _ hji]
      exact h3.2.2

theorem wpAnyT_take {i : Nat} {oi : Oper} {v : Value} {fuel : Nat} {listed : Array Bool} {a : Act} {w : World} (hi : ops[i]? = some oi) (hil : i ≠ last) (hlo : loose ops i = false) (hsink : Sink ops last listed) (hlu : listed.getD last true = false)
    (hs : Region.noSelect ops = true) (hf : Region.free .any ops listed i = true) (hr : (Region.ready .any ops listed).contains i = true)
    (hQ : ∀ c a w, Q (.panic c) (a.put oi.dst v) w → Q (.panic c) a w) (hy : YieldsIf P ops C oi v a) (hS : C w)
    (h : wpAnyT P ops Q C last fuel (listed.setIfInBounds i true) (a.put oi.dst v) w) : wpAnyT P ops Q C last (fuel + 1) listed a w :=
  wpAnyT_first hi hil hlo (Region.noSelect_spec hs) hQ fuel listed a w (Region.free_spec hi hf) hsink hlu (by simpa using hr) hy hS h
theorem wpAnyT_loose {i : Nat} {oi : Oper} {v : Value} {fuel : Nat} {listed : Array Bool} {a : Act} {w : World} (hi : ops[i]? = some oi) (hil : i ≠ last)
    (hs : Region.noSelect ops = true) (hf : Region.free .any ops listed i = true) (hr : (Region.ready .any ops listed).contains i = true)
    (hQ : ∀ c a w, Q (.panic c) (a.put oi.dst v) w → Q (.panic c) a w) (hy : YieldsIf P ops (fun _ => True) oi v a) (hS : C w)
    (h : wpAnyT P ops Q C last fuel (listed.setIfInBounds i true) (a.put oi.dst v) w) : wpAnyT P ops Q C last (fuel + 1) listed a w :=
  wpAnyT_pure hi hil (Region.noSelect_spec hs) hQ fuel listed a w (Region.free_spec hi hf) (by simpa using hr) hy (fun _ => hS) h

theorem extract_any {o : Oper} {ρ : Operand → Value} {w : World} {v : Value} {x : Operand} {k : Nat} (ho : o.op = .extract x k) (h : (execOp ρ o).run P w = .ok (.value v) w) : ∀ w', (execOp ρ o).run P w' = .ok (.value v) w' := fun w' => by
  obtain ⟨dst, op, type, pos, after, guard⟩ := o
  simp only at ho
  subst ho
  simp only [execOp, Instr.extract] at h ⊢
  cases hx : ρ x <;> simp only [hx] at h ⊢
  case tuple vs =>
    cases hv : vs[k]? <;> simp only [hv] at h ⊢
    · simp [go_sem, Result.andThen, stuck] at h
    · simp only [Sem.run_bind, Sem.run_pure, Result.andThen] at h ⊢
      cases h; rfl
  all_goals simp [go_sem, Result.andThen, stuck] at h

theorem wpAnyT_all {rs : List Nat} {fuel : Nat} {listed : Array Bool} {a : Act} {w : World} (hr : Region.ready .any ops listed = rs) (hne : rs ≠ [])
    (h : ∀ i ∈ rs, wpOp P ops Q i (fun a' w' => ((listed.setIfInBounds i true).getD last true = false → C w') ∧ wpAnyT P ops Q C last fuel (listed.setIfInBounds i true) a' w') a w) : wpAnyT P ops Q C last (fuel + 1) listed a w :=
  ⟨fun h0 => absurd (hr ▸ h0) hne, hr ▸ h⟩
theorem wpAnyT_done {listed : Array Bool} {a : Act} {w : World} (hr : Region.ready .any ops listed = []) (h : Q .normal a w) : ∀ fuel, wpAnyT P ops Q C last fuel listed a w
  | 0 => ⟨hr, h⟩
  | _ + 1 => ⟨fun _ => h, by rw [hr]; simp⟩
theorem wpAnyT_strong {C' : World → Prop} (h : ∀ w, C' w → C w) : ∀ (n : Nat) (listed : Array Bool) (a : Act) (w : World), wpAnyT P ops Q C' last n listed a w → wpAnyT P ops Q C last n listed a w
  | 0, _, _, _, hh => hh
  | n + 1, _, _, _, hh => ⟨hh.1, fun i hi => wpOp_mono (fun a' w' ⟨h1, h2⟩ => ⟨fun hl => h _ (h1 hl), wpAnyT_strong h n _ a' w' h2⟩) (hh.2 i hi)⟩

/-- These operations may come up one behind the other, each plain, none the last one. -/
def takesT (ops : Array Oper) (last : Nat) : List Nat → Array Bool → Bool
  | [], _ => true
  | i :: is, listed => (Region.ready .any ops listed).contains i && Region.free .any ops listed i && (loose ops i || (sinkB ops last listed && !listed.getD last true)) && !(i == last) && ((ops[i]?).map fun o => plainOp o.op).getD false && takesT ops last is (listed.setIfInBounds i true)

theorem growT_take (hs : Region.noSelect ops = true) : ∀ (is : List Nat) (n : Nat) (listed : Array Bool) (a : Act), takesT ops last is listed = true →
    wpQuiet P ops C (fun a' => ∀ w, C w → wpAnyT P ops (NoPanic Q) C last n (marks is listed) a' w) (opsAt ops is) a → ∀ w, C w → wpAnyT P ops (NoPanic Q) C last (n + is.length) listed a w
  | [], n, listed, a, _, h, w, hw => h w hw
  | i :: is, n, listed, a, hB, h, w, hw => by
    simp only [takesT, Bool.and_eq_true, Bool.or_eq_true, Bool.not_eq_true', beq_eq_false_iff_ne] at hB
    obtain ⟨⟨⟨⟨⟨hr, hf⟩, hk⟩, hil⟩, hp⟩, hB'⟩ := hB
    cases ho : ops[i]? with
    | none => rw [ho] at hp; simp at hp
    | some o =>
      rw [ho] at hp
      have hp' : plainOp o.op = true := by simpa using hp
      simp only [opsAt, ho, wpQuiet] at h
      have key : ∃ v, YieldsIf P ops C o v a ∧ wpQuiet P ops C (fun a' => ∀ w, C w → wpAnyT P ops (NoPanic Q) C last n (marks is (listed.setIfInBounds i true)) a' w) (opsAt ops is) (a.put o.dst v) := by
        by_cases hwt : Region.wanted o (yielded ops a.tmps) = true
        · rw [if_pos hwt] at h
          obtain ⟨v, h1, h2⟩ := h
          exact ⟨v, yieldsIf_of_quiet hp' hwt h1, h2⟩
        · rw [if_neg hwt] at h
          exact ⟨undef, .inr ⟨by simpa using hwt, rfl⟩, h⟩
      obtain ⟨v, hy, hq⟩ := key
      have rest := growT_take hs is n (listed.setIfInBounds i true) (a.put o.dst v) hB' hq w hw
      cases hlo : loose ops i with
      | false =>
        rw [hlo] at hk
        obtain ⟨hk1, hk2⟩ := hk.resolve_left (by simp)
        exact wpAnyT_take ho hil hlo (sink_of hk1) hk2 hs hf hr (fun _ _ _ h => h) hy hw rest
      | true =>
        refine wpAnyT_loose ho hil hs hf hr (fun _ _ _ h => h) ?_ hw rest
        unfold loose at hlo
        rw [ho] at hlo
        obtain ⟨x, k, hop⟩ : ∃ x k, o.op = .extract x k := by
          cases hop : o.op <;> simp only [hop, Bool.false_eq_true] at hlo
          exact ⟨_, _, rfl⟩
        exact hy.imp (fun ⟨h1, h2⟩ => ⟨h1, fun w' _ => extract_any hop (h2 w hw) w'⟩) id

/-- The beginning. -/
theorem growT_begin (last : Nat) {id : Nat} {a : Act} {w : World} {l : List Oper} (hm : P.follows .mixedOrders = true)
    (h : ∀ w', (∃ p : Regrown, w' = grow (redrawn w p.d) p.os) → wpAnyT P l.toArray (NoPanic Q) (fun w' => ∃ p : Regrown, w' = grow (redrawn w p.d) p.os) last l.length (Array.replicate l.length false) a w') : (Code.region id l.toArray true).wp P Q a w := by
  refine wp_region_noPanic (wp_region_any hm (wpAny_of_T (C := fun w' => ∃ p : Regrown, w' = grow (redrawn w p.d) p.os) (last := last) _ _ _ _ ?_))
  have := h w.drew (regrown_of_below ((Below.refl _ _).drew))
  rw [List.size_toArray]
  exact this

/-- Whichever of those that may come up comes up, none of them the last one. -/
theorem growT_all (rs : List Nat) {n : Nat} {listed : Array Bool} {a : Act} {w0 w : World} (hr : Region.ready .any ops listed = rs) (hne : rs ≠ []) (hw : ∃ p : Regrown, w = grow (redrawn w0 p.d) p.os)
    (h : ∀ i ∈ rs, ∀ K : Act → World → Prop, Shut (∀ a' w1, Below w.heap.size w w1 → (∀ w', (∃ p : Regrown, w' = grow (redrawn w1 p.d) p.os) → wpAnyT P ops (NoPanic Q) (fun w' => ∃ p : Regrown, w' = grow (redrawn w1 p.d) p.os) last n (listed.setIfInBounds i true) a' w') → K a' w1) →
      stepOf P ops (NoPanic Q) K a w ops[i]?) : wpAnyT P ops (NoPanic Q) (fun w' => ∃ p : Regrown, w' = grow (redrawn w0 p.d) p.os) last (n + 1) listed a w := by
  refine wpAnyT_all hr hne fun j hj => ?_
  have hb0 := below_of_up hw
  have hs := h j hj (fun a' w' => ((listed.setIfInBounds j true).getD last true = false → ∃ p : Regrown, w' = grow (redrawn w0 p.d) p.os) ∧ wpAnyT P ops (NoPanic Q) (fun w' => ∃ p : Regrown, w' = grow (redrawn w0 p.d) p.os) last n (listed.setIfInBounds j true) a' w') (fun a' w1 hb hh => by
    have hb1 : Below w0.heap.size w0 w1 := hb0.trans (hb.mono hb0.size)
    exact ⟨fun _ => regrown_of_below hb1, wpAnyT_strong (fun w' hw' => regrown_of_below (hb1.trans ((below_of_up hw').mono hb1.size))) _ _ _ _ (hh w1 (regrown_of_below (Below.refl _ _)))⟩)
  unfold wpOp
  cases ho : ops[j]? with
  | none => rw [ho] at hs; exact hs.elim
  | some o =>
    rw [ho] at hs
    simp only [stepOf] at hs
    show if Region.wanted o (yielded ops a.tmps) = true then _ else _
    by_cases hwt : Region.wanted o (yielded ops a.tmps) = true
    · rw [if_pos hwt] at hs ⊢; exact .inl hs
    · rw [if_neg hwt] at hs ⊢; exact hs
theorem growT_one (i : Nat) {n : Nat} {listed : Array Bool} {a : Act} {w0 w : World} (hr : Region.ready .any ops listed = [i]) (hw : ∃ p : Regrown, w = grow (redrawn w0 p.d) p.os)
    (h : ∀ K : Act → World → Prop, Shut (∀ a' w1, Below w.heap.size w w1 → (∀ w', (∃ p : Regrown, w' = grow (redrawn w1 p.d) p.os) → wpAnyT P ops (NoPanic Q) (fun w' => ∃ p : Regrown, w' = grow (redrawn w1 p.d) p.os) last n (listed.setIfInBounds i true) a' w') → K a' w1) →
      stepOf P ops (NoPanic Q) K a w ops[i]?) : wpAnyT P ops (NoPanic Q) (fun w' => ∃ p : Regrown, w' = grow (redrawn w0 p.d) p.os) last (n + 1) listed a w :=
  growT_all [i] hr (by simp) hw fun j hj => by
    obtain rfl : j = i := by simpa using hj
    exact h
/-- The last one: it may write whatever it likes. -/
theorem growT_last {n : Nat} {listed : Array Bool} {a : Act} {w0 w : World} (hr : Region.ready .any ops listed = [last]) (hd : Region.ready .any ops (listed.setIfInBounds last true) = [])
    (h : ∀ K : Act → World → Prop, Shut (∀ a' w1, Q .normal a' w1 → K a' w1) → stepOf P ops (NoPanic Q) K a w ops[last]?) : wpAnyT P ops (NoPanic Q) (fun w' => ∃ p : Regrown, w' = grow (redrawn w0 p.d) p.os) last (n + 1) listed a w := by
  refine wpAnyT_all hr (by simp) fun j hj => ?_
  obtain rfl : j = last := by simpa using hj
  have hs := h (fun a' w' => ((listed.setIfInBounds j true).getD j true = false → ∃ p : Regrown, w' = grow (redrawn w0 p.d) p.os) ∧ wpAnyT P ops (NoPanic Q) (fun w' => ∃ p : Regrown, w' = grow (redrawn w0 p.d) p.os) j n (listed.setIfInBounds j true) a' w') (fun a' w1 hq => ⟨fun e => (by rw [getD_set_self] at e; cases e), wpAnyT_done hd (NoPanic.normal hq) n⟩)
  unfold wpOp
  cases ho : ops[j]? with
  | none => rw [ho] at hs; exact hs.elim
  | some o =>
    rw [ho] at hs
    simp only [stepOf] at hs
    show if Region.wanted o (yielded ops a.tmps) = true then _ else _
    by_cases hwt : Region.wanted o (yielded ops a.tmps) = true
    · rw [if_pos hwt] at hs ⊢; exact .inl hs
    · rw [if_neg hwt] at hs ⊢; exact hs
end
end Go.Proofs.YtfgaohilpbocbaaGreatDoor
end

section
namespace Go.Proofs.YtfgaohilpbocbaaGreatDoor
open Go.RowKit Go.Sort
set_option linter.unusedVariables false

section
variable {P : Program} {ops : Array Oper} {Q : Exit → Act → World → Prop} {C : World → Prop} {last : Nat}

theorem growK_begin (last : Nat) (C : World → Prop) {id : Nat} {a : Act} {w : World} {l : List Oper} (hm : P.follows .mixedOrders = true)
    (h : wpAnyT P l.toArray (NoPanic Q) C last l.length (Array.replicate l.length false) a w.drew) : (Code.region id l.toArray true).wp P Q a w := by
  refine wp_region_noPanic (wp_region_any hm (wpAny_of_T (C := C) (last := last) _ _ _ _ ?_))
  rw [List.size_toArray]
  exact h
theorem growK_take (hs : Region.noSelect ops = true) : ∀ (is : List Nat) (n : Nat) (listed : Array Bool) (a : Act), takesT ops last is listed = true → ∀ w, C w →
    wpQuiet P ops C (fun a' => wpAnyT P ops (NoPanic Q) C last n (marks is listed) a' w) (opsAt ops is) a → wpAnyT P ops (NoPanic Q) C last (n + is.length) listed a w
  | [], n, listed, a, _, w, hw, h => h
  | i :: is, n, listed, a, hB, w, hw, h => by
    simp only [takesT, Bool.and_eq_true, Bool.or_eq_true, Bool.not_eq_true', beq_eq_false_iff_ne] at hB
    obtain ⟨⟨⟨⟨⟨hr, hf⟩, hk⟩, hil⟩, hp⟩, hB'⟩ := hB
    cases ho : ops[i]? with
    | none => rw [ho] at hp; simp at hp
    | some o =>
      rw [ho] at hp
      have hp' : plainOp o.op = true := by simpa using hp
      simp only [opsAt, ho, wpQuiet] at h
      have key : ∃ v, YieldsIf P ops C o v a ∧ wpQuiet P ops C (fun a' => wpAnyT P ops (NoPanic Q) C last n (marks is (listed.setIfInBounds i true)) a' w) (opsAt ops is) (a.put o.dst v) := by
        by_cases hwt : Region.wanted o (yielded ops a.tmps) = true
        · rw [if_pos hwt] at h
          obtain ⟨v, h1, h2⟩ := h
          exact ⟨v, yieldsIf_of_quiet hp' hwt h1, h2⟩
        · rw [if_neg hwt] at h
          exact ⟨undef, .inr ⟨by simpa using hwt, rfl⟩, h⟩
      obtain ⟨v, hy, hq⟩ := key
      have rest := growK_take hs is n (listed.setIfInBounds i true) (a.put o.dst v) hB' w hw hq
      cases hlo : loose ops i with
      | false =>
        rw [hlo] at hk
        obtain ⟨hk1, hk2⟩ := hk.resolve_left (by simp)
        exact wpAnyT_take ho hil hlo (sink_of hk1) hk2 hs hf hr (fun _ _ _ h => h) hy hw rest
      | true =>
        refine wpAnyT_loose ho hil hs hf hr (fun _ _ _ h => h) ?_ hw rest
        unfold loose at hlo
        rw [ho] at hlo
        obtain ⟨x, k, hop⟩ : ∃ x k, o.op = .extract x k := by
          cases hop : o.op <;> simp only [hop, Bool.false_eq_true] at hlo
          exact ⟨_, _, rfl⟩
        exact hy.imp (fun ⟨h1, h2⟩ => ⟨h1, fun w' _ => extract_any hop (h2 w hw) w'⟩) id
theorem growK_one (i : Nat) {n : Nat} {listed : Array Bool} {a : Act} {w : World} (hr : Region.ready .any ops listed = [i])
    (h : ∀ K : Act → World → Prop, Shut (∀ a' w1, C w1 → wpAnyT P ops (NoPanic Q) C last n (listed.setIfInBounds i true) a' w1 → K a' w1) →
      stepOf P ops (NoPanic Q) K a w ops[i]?) : wpAnyT P ops (NoPanic Q) C last (n + 1) listed a w := by
  refine wpAnyT_all hr (by simp) fun j hj => ?_
  obtain rfl : j = i := by simpa using hj
  have hs := h (fun a' w' => ((listed.setIfInBounds j true).getD last true = false → C w') ∧ wpAnyT P ops (NoPanic Q) C last n (listed.setIfInBounds j true) a' w') (fun a' w1 h1 h2 => ⟨fun _ => h1, h2⟩)
  unfold wpOp
  cases ho : ops[j]? with
  | none => rw [ho] at hs; exact hs.elim
  | some o =>
    rw [ho] at hs
    simp only [stepOf] at hs
    show if Region.wanted o (yielded ops a.tmps) = true then _ else _
    by_cases hwt : Region.wanted o (yielded ops a.tmps) = true
    · rw [if_pos hwt] at hs ⊢; exact .inl hs
    · rw [if_neg hwt] at hs ⊢; exact hs
/-- Whichever of those that may come up comes up. -/
theorem growK_all (rs : List Nat) {n : Nat} {listed : Array Bool} {a : Act} {w : World} (hr : Region.ready .any ops listed = rs) (hne : rs ≠ [])
    (h : ∀ i ∈ rs, ∀ K : Act → World → Prop, Shut (∀ a' w1, C w1 → wpAnyT P ops (NoPanic Q) C last n (listed.setIfInBounds i true) a' w1 → K a' w1) →
      stepOf P ops (NoPanic Q) K a w ops[i]?) : wpAnyT P ops (NoPanic Q) C last (n + 1) listed a w := by
  refine wpAnyT_all hr hne fun j hj => ?_
  have hs := h j hj (fun a' w' => ((listed.setIfInBounds j true).getD last true = false → C w') ∧ wpAnyT P ops (NoPanic Q) C last n (listed.setIfInBounds j true) a' w') (fun a' w1 h1 h2 => ⟨fun _ => h1, h2⟩)
  unfold wpOp
  cases ho : ops[j]? with
  | none => rw [ho] at hs; exact hs.elim
  | some o =>
    rw [ho] at hs
    simp only [stepOf] at hs
    show if Region.wanted o (yielded ops a.tmps) = true then _ else _
    by_cases hwt : Region.wanted o (yielded ops a.tmps) = true
    · rw [if_pos hwt] at hs ⊢; exact .inl hs
    · rw [if_neg hwt] at hs ⊢; exact hs
/-- One of two. -/
theorem growK_two (i j : Nat) {n : Nat} {listed : Array Bool} {a : Act} {w : World} (hr : Region.ready .any ops listed = [i, j])
    (h1 : ∀ K : Act → World → Prop, Shut (∀ a' w1, C w1 → wpAnyT P ops (NoPanic Q) C last n (listed.setIfInBounds i true) a' w1 → K a' w1) → stepOf P ops (NoPanic Q) K a w ops[i]?)
    (h2 : ∀ K : Act → World → Prop, Shut (∀ a' w1, C w1 → wpAnyT P ops (NoPanic Q) C last n (listed.setIfInBounds j true) a' w1 → K a' w1) → stepOf P ops (NoPanic Q) K a w ops[j]?) : wpAnyT P ops (NoPanic Q) C last (n + 1) listed a w :=
  growK_all [i, j] hr (by simp) fun x hx => by
    rcases List.mem_cons.1 hx with rfl | hx
    · exact h1
    · obtain rfl := List.mem_singleton.1 hx
      exact h2
theorem growK_last {n : Nat} {listed : Array Bool} {a : Act} {w : World} (hr : Region.ready .any ops listed = [last]) (hd : Region.ready .any ops (listed.setIfInBounds last true) = [])
    (h : ∀ K : Act → World → Prop, Shut (∀ a' w1, Q .normal a' w1 → K a' w1) → stepOf P ops (NoPanic Q) K a w ops[last]?) : wpAnyT P ops (NoPanic Q) C last (n + 1) listed a w := by
  refine wpAnyT_all hr (by simp) fun j hj => ?_
  obtain rfl : j = last := by simpa using hj
  have hs := h (fun a' w' => ((listed.setIfInBounds j true).getD j true = false → C w') ∧ wpAnyT P ops (NoPanic Q) C j n (listed.setIfInBounds j true) a' w') (fun a' w1 hq => ⟨fun e => (by rw [getD_set_self] at e; cases e), wpAnyT_done hd (NoPanic.normal hq) n⟩)
  unfold wpOp
  cases ho : ops[j]? with
  | none => rw [ho] at hs; exact hs.elim
  | some o =>
    rw [ho] at hs
    simp only [stepOf] at hs
    show if Region.wanted o (yielded ops a.tmps) = true then _ else _
    by_cases hwt : Region.wanted o (yielded ops a.tmps) = true
    · rw [if_pos hwt] at hs ⊢; exact .inl hs
    · rw [if_neg hwt] at hs ⊢; exact hs
end
end Go.Proofs.YtfgaohilpbocbaaGreatDoor
end

section
namespace Go.Proofs.YtfgaohilpbocbaaGreatDoor
open Go.RowKit Go.Sort
set_option linter.unusedVariables false

section
variable {P : Program} {ops : Array Oper} {Q : Exit → Act → World → Prop} {C : World → Prop} {last : Nat}

/-- A variable that is set: it may come up behind the last one. -/
def looseU (ops : Array Oper) (i : Nat) : Bool := match ops[i]? with
  | some o => (match o.op with | .assign .. => true | _ => false)
  | none => false
/-- Each operation that has not come up, but the last one and parts of tuples, is waited for by a later one that has not come up. -/
def SinkU (ops : Array Oper) (last : Nat) (listed : Array Bool) : Prop :=
  ∀ i, i ≠ last → looseU ops i = false → listed.getD i true = false → ∃ j oj, i < j ∧ (j = last ∨ looseU ops j = false) ∧ listed.getD j true = false ∧ ops[j]? = some oj ∧ ∃ e ∈ oj.after, Region.binds .any e = true ∧ e.on = i
def sinkUB (ops : Array Oper) (last : Nat) (listed : Array Bool) : Bool :=
  (List.range listed.size).all fun i => i == last || looseU ops i || listed.getD i true || (List.range listed.size).any fun j => decide (i < j) && (j == last || !looseU ops j) && !listed.getD j true && (match ops[j]? with | some oj => oj.after.any fun e => Region.binds .any e && e.on == i | none => false)
theorem sinkU_of {listed : Array Bool} (h : sinkUB ops last listed = true) : SinkU ops last listed := fun i hi hlo hu => by
  unfold sinkUB at h
  rw [List.all_eq_true] at h
  have h1 := h i (List.mem_range.2 (lt_of_unlisted hu))
  simp only [hu, hlo, Bool.or_false, Bool.or_eq_true, beq_iff_eq] at h1
  rcases h1 with h1 | h1
  · exact absurd h1 hi
  · obtain ⟨j, hj, h2⟩ := List.any_eq_true.1 h1
    simp only [Bool.and_eq_true, Bool.or_eq_true, beq_iff_eq, decide_eq_true_eq, Bool.not_eq_true'] at h2
    obtain ⟨⟨⟨h3, h3'⟩, h4⟩, h5⟩ := h2
    cases ho : ops[j]? with
    | none => rw [ho] at h5; simp at h5
    | some oj =>
      rw [ho] at h5
      obtain ⟨e, he, hb⟩ := Array.any_eq_true'.1 h5
      simp only [Bool.and_eq_true, beq_iff_eq] at hb
      exact ⟨j, oj, h3, h3', h4, ho, e, he, hb.1, hb.2⟩
theorem SinkU.set {listed : Array Bool} {r : Nat} (h : SinkU ops last listed) (hr : r ∈ Region.ready .any ops listed) : SinkU ops last (listed.setIfInBounds r true) := fun i hi hlo hu => by
  have hir : r ≠ i := fun e => by
    subst e
    have hlt := lt_of_unlisted (mem_ready.1 hr).1
    simp [hlt] at hu
  rw [getD_set_ne true hir] at hu
  obtain ⟨j, oj, h1, h1', h2, h3, e, he, hb, hon⟩ := h i hi hlo hu
  have hrj : r ≠ j := fun e' => by subst e'; exact unready hu h3 he hb hon hr
  exact ⟨j, oj, h1, h1', by rw [getD_set_ne true hrj]; exact h2, h3, e, he, hb, hon⟩
theorem SinkU.late {listed : Array Bool} (h : SinkU ops last listed) : ∀ (n i : Nat), listed.size - i ≤ n → i ≠ last → looseU ops i = false → listed.getD i true = false → last ∉ Region.ready .any ops listed
  | 0, i, hn, hi, _, hu => by have := lt_of_unlisted hu; omega
  | n + 1, i, hn, hi, hlo, hu => by
    obtain ⟨j, oj, h1, h1', h2, h3, e, he, hb, hon⟩ := h i hi hlo hu
    by_cases hj : j = last
    · subst hj; exact unready hu h3 he hb hon
    · exact SinkU.late h n j (by have := lt_of_unlisted hu; omega) hj (h1'.resolve_left hj) h2

theorem wpAnyU_first {i : Nat} {oi : Oper} {v : Value} (hi : ops[i]? = some oi) (hil : i ≠ last) (hlo : looseU ops i = false) (hsel : ∀ (j : Nat) (o : Oper) cs b, ops[j]? = some o → o.op ≠ .select cs b)
    (hQ : ∀ c a w, Q (.panic c) (a.put oi.dst v) w → Q (.panic c) a w) :
    ∀ (fuel : Nat) (listed : Array Bool) (a : Act) (w : World),
      (∀ j oj, ops[j]? = some oj → j ≠ i → listed.getD j true = false → (∀ e ∈ oj.after, Region.binds .any e = true → e.on ≠ i) → oi.apart ops oj = true) → SinkU ops last listed → listed.getD last true = false →
      i ∈ Region.ready .any ops listed → YieldsIf P ops C oi v a → C w →
      wpAnyT P ops Q C last fuel (listed.setIfInBounds i true) (a.put oi.dst v) w → wpAnyT P ops Q C last (fuel + 1) listed a w := by
  intro fuel
  induction fuel with
  | zero =>
    intro listed a w _ _ _ hr hy hS H
    refine ⟨fun h => (by rw [h] at hr; cases hr), fun j hj => ?_⟩
    by_cases hji : j = i
    · subst hji; exact hy.wpOp hi hS ⟨fun _ => hS, H⟩
    · have := ready_mono hj hji
      rw [H.1] at this
      cases this
  | succ fuel ih =>
    intro listed a w hfree hsink hlu hr hy hS H
    refine ⟨fun h => (by rw [h] at hr; cases hr), fun j hj => ?_⟩
    by_cases hji : j = i
    · subst hji; exact hy.wpOp hi hS ⟨fun _ => hS, H⟩
    · have hjl : j ≠ last := fun e => by
        subst e
        exact hsink.late listed.size i (by omega) hil hlo (mem_ready.1 hr).1 hj
      have h1 := H.2 j (ready_mono hj hji)
      obtain ⟨hjun, oj, hoj, hall⟩ := mem_ready.1 hj
      have hnot : ∀ e ∈ oj.after, Region.binds .any e = true → e.on ≠ i := fun e he hb heq => unready (mem_ready.1 hr).1 hoj he hb heq hj
      have h2 := wpOp_putIf hoj (hfree j oj hoj hji hjun hnot) (fun cs b => hsel i oi cs b hi) (fun cs b => hsel j oj cs b hoj) hQ hy h1
      have hfree' : ∀ k ok, ops[k]? = some ok → k ≠ i → (listed.setIfInBounds j true).getD k true = false →
          (∀ e ∈ ok.after, Region.binds .any e = true → e.on ≠ i) → oi.apart ops ok = true := fun k ok hk hki hun hno => by
        refine hfree k ok hk hki ?_ hno
        by_cases hjk : j = k
        · subst hjk; exact hjun
        · rw [getD_set_ne true hjk] at hun; exact hun
      have hlu2 : (listed.setIfInBounds j true).getD last true = false := by rw [getD_set_ne true hjl]; exact hlu
      have hlu3 : ((listed.setIfInBounds i true).setIfInBounds j true).getD last true = false := by rw [getD_set_ne true hjl, getD_set_ne true hil]; exact hlu
      refine wpOp_mono (fun a' w' h3 => ⟨fun _ => h3.2.1 hlu3, ih (listed.setIfInBounds j true) a' w' hfree' (hsink.set hj) hlu2 (ready_mono hr (Ne.symm hji)) h3.1 (h3.2.1 hlu3) ?_⟩) h2
      rw [Array.setIfInBounds_comm _ _ hji]
      exact h3.2.2

theorem wpAnyU_take {i : Nat} {oi : Oper} {v : Value} {fuel : Nat} {listed : Array Bool} {a : Act} {w : World} (hi : ops[i]? = some oi) (hil : i ≠ last) (hlo : looseU ops i = false) (hsink : SinkU ops last listed) (hlu : listed.getD last true = false)
    (hs : Region.noSelect ops = true) (hf : Region.free .any ops listed i = true) (hr : (Region.ready .any ops listed).contains i = true)
    (hQ : ∀ c a w, Q (.panic c) (a.put oi.dst v) w → Q (.panic c) a w) (hy : YieldsIf P ops C oi v a) (hS : C w)
    (h : wpAnyT P ops Q C last fuel (listed.setIfInBounds i true) (a.put oi.dst v) w) : wpAnyT P ops Q C last (fuel + 1) listed a w :=
  wpAnyU_first hi hil hlo (Region.noSelect_spec hs) hQ fuel listed a w (Region.free_spec hi hf) hsink hlu (by simpa using hr) hy hS h
/-- These operations may come up one behind the other, each plain, none the last one. -/
def takesU (ops : Array Oper) (last : Nat) : List Nat → Array Bool → Bool
  | [], _ => true
  | i :: is, listed => (Region.ready .any ops listed).contains i && Region.free .any ops listed i && (!looseU ops i && (sinkUB ops last listed && !listed.getD last true)) && !(i == last) && ((ops[i]?).map fun o => plainOp o.op).getD false && takesU ops last is (listed.setIfInBounds i true)

theorem growU_take (hs : Region.noSelect ops = true) : ∀ (is : List Nat) (n : Nat) (listed : Array Bool) (a : Act), takesU ops last is listed = true →
    wpQuiet P ops C (fun a' => ∀ w, C w → wpAnyT P ops (NoPanic Q) C last n (marks is listed) a' w) (opsAt ops is) a → ∀ w, C w → wpAnyT P ops (NoPanic Q) C last (n + is.length) listed a w
  | [], n, listed, a, _, h, w, hw => h w hw
  | i :: is, n, listed, a, hB, h, w, hw => by
    simp only [takesU, Bool.and_eq_true, Bool.not_eq_true', beq_eq_false_iff_ne] at hB
    obtain ⟨⟨⟨⟨⟨hr, hf⟩, hlo, hk1, hk2⟩, hil⟩, hp⟩, hB'⟩ := hB
    cases ho : ops[i]? with
    | none => rw [ho] at hp; simp at hp
    | some o =>
      rw [ho] at hp
      have hp' : plainOp o.op = true := by simpa using hp
      simp only [opsAt, ho, wpQuiet] at h
      have key : ∃ v, YieldsIf P ops C o v a ∧ wpQuiet P ops C (fun a' => ∀ w, C w → wpAnyT P ops (NoPanic Q) C last n (marks is (listed.setIfInBounds i true)) a' w) (opsAt ops is) (a.put o.dst v) := by
        by_cases hwt : Region.wanted o (yielded ops a.tmps) = true
        · rw [if_pos hwt] at h
          obtain ⟨v, h1, h2⟩ := h
          exact ⟨v, yieldsIf_of_quiet hp' hwt h1, h2⟩
        · rw [if_neg hwt] at h
          exact ⟨undef, .inr ⟨by simpa using hwt, rfl⟩, h⟩
      obtain ⟨v, hy, hq⟩ := key
      have rest := growU_take hs is n (listed.setIfInBounds i true) (a.put o.dst v) hB' hq w hw
      exact wpAnyU_take ho hil hlo (sinkU_of hk1) hk2 hs hf hr (fun _ _ _ h => h) hy hw rest

/-- The last one, and the variable that is set behind it. -/
theorem growU_last {i n : Nat} {listed : Array Bool} {a : Act} {w0 w : World} (hr : Region.ready .any ops listed = [last]) (h2 : Region.ready .any ops (listed.setIfInBounds last true) = [i]) (hil : i ≠ last) (hd : Region.ready .any ops ((listed.setIfInBounds last true).setIfInBounds i true) = [])
    (h : ∀ K : Act → World → Prop, Shut (∀ a' w1, stepOf P ops (NoPanic Q) (fun a2 w2 => Q .normal a2 w2) a' w1 ops[i]? → K a' w1) → stepOf P ops (NoPanic Q) K a w ops[last]?) : wpAnyT P ops (NoPanic Q) (fun w' => ∃ p : Regrown, w' = grow (redrawn w0 p.d) p.os) last (n + 2) listed a w := by
  refine wpAnyT_all hr (by simp) fun j hj => ?_
  obtain rfl : j = last := by simpa using hj
  have hone : ∀ {K : Act → World → Prop} {q : Nat} {a1 : Act} {w1 : World}, stepOf P ops (NoPanic Q) K a1 w1 ops[q]? → wpOp P ops (NoPanic Q) q K a1 w1 := fun {K q a1 w1} hs => by
    unfold wpOp
    cases ho : ops[q]? with
    | none => rw [ho] at hs; exact hs.elim
    | some o =>
      rw [ho] at hs
      simp only [stepOf] at hs
      show if Region.wanted o (yielded ops a1.tmps) = true then _ else _
      by_cases hwt : Region.wanted o (yielded ops a1.tmps) = true
      · rw [if_pos hwt] at hs ⊢; exact .inl hs
      · rw [if_neg hwt] at hs ⊢; exact hs
  refine hone (h _ (fun a' w1 hq => ⟨fun e => (by rw [getD_set_self] at e; cases e), ?_⟩))
  refine wpAnyT_all h2 (by simp) fun q hq' => ?_
  obtain rfl : q = i := by simpa using hq'
  refine wpOp_mono (fun a2 w2 hq2 => ⟨fun e => ?_, wpAnyT_done hd (NoPanic.normal hq2) n⟩) (hone hq)
  rw [getD_set_ne true hil, getD_set_self] at e
  cases e
end
end Go.Proofs.YtfgaohilpbocbaaGreatDoor
end

section
namespace Go.Proofs.YtfgaohilpbocbaaGreatDoor
open Go.RowKit Go.Sort
set_option linter.unusedVariables false

section
variable {P : Program} {ops : Array Oper} {Q : Exit → Act → World → Prop} {C : World → Prop} {last : Nat}

theorem growKU_last {i n : Nat} {listed : Array Bool} {a : Act} {w : World} (hr : Region.ready .any ops listed = [last]) (h2 : Region.ready .any ops (listed.setIfInBounds last true) = [i]) (hil : i ≠ last) (hd : Region.ready .any ops ((listed.setIfInBounds last true).setIfInBounds i true) = [])
    (h : ∀ K : Act → World → Prop, Shut (∀ a' w1, stepOf P ops (NoPanic Q) (fun a2 w2 => Q .normal a2 w2) a' w1 ops[i]? → K a' w1) → stepOf P ops (NoPanic Q) K a w ops[last]?) : wpAnyT P ops (NoPanic Q) C last (n + 2) listed a w := by
  refine wpAnyT_all hr (by simp) fun j hj => ?_
  obtain rfl : j = last := by simpa using hj
  have hone : ∀ {K : Act → World → Prop} {q : Nat} {a1 : Act} {w1 : World}, stepOf P ops (NoPanic Q) K a1 w1 ops[q]? → wpOp P ops (NoPanic Q) q K a1 w1 := fun {K q a1 w1} hs => by
    unfold wpOp
    cases ho : ops[q]? with
    | none => rw [ho] at hs; exact hs.elim
    | some o =>
      rw [ho] at hs
      simp only [stepOf] at hs
      show if Region.wanted o (yielded ops a1.tmps) = true then _ else _
      by_cases hwt : Region.wanted o (yielded ops a1.tmps) = true
      · rw [if_pos hwt] at hs ⊢; exact .inl hs
      · rw [if_neg hwt] at hs ⊢; exact hs
  refine hone (h _ (fun a' w1 hq => ⟨fun e => (by rw [getD_set_self] at e; cases e), ?_⟩))
  refine wpAnyT_all h2 (by simp) fun q hq' => ?_
  obtain rfl : q = i := by simpa using hq'
  refine wpOp_mono (fun a2 w2 hq2 => ⟨fun e => ?_, wpAnyT_done hd (NoPanic.normal hq2) n⟩) (hone hq)
  rw [getD_set_ne true hil, getD_set_self] at e
  cases e
end
end Go.Proofs.YtfgaohilpbocbaaGreatDoor
end

section
namespace Go.Proofs.YtfgaohilpbocbaaGreatDoor
open Go.ChangeShapes Go.WideShapes Go.ChangeAt Go.RowKit Go.Joins
set_option linter.unusedVariables false

/-- Worlds that have what W has, but for the blocks that S names. -/
structure KeepW (W : World) (S : Nat → Prop) where
  v : World
  h : Fr S W v
instance keepW_some (W : World) (S : Nat → Prop) : Nonempty (KeepW W S) := ⟨⟨W, Fr.refl _ _⟩⟩
theorem keep_class {W w : World} {S : Nat → Prop} (h : Fr S W w) : ∃ p : KeepW W S, w = p.v := ⟨⟨w, h⟩, rfl⟩
theorem KeepW.cell {W : World} {S : Nat → Prop} (p : KeepW W S) {b i : Nat} (hb : b < W.heap.size) (hS : ¬ S b) : p.v.cell? ⟨b, i, none⟩ = W.cell? ⟨b, i, none⟩ :=
  World.cell?_of_block (a := ⟨b, i, none⟩) (p.h.block b hb hS)
theorem KeepW.loose {W : World} {S : Nat → Prop} (p : KeepW W S) {b i : Nat} (hb : b < W.heap.size) (hS : ¬ S b) {cs : Array Value} {t : TypeId} (h : W.heap[b]? = some (.cells cs t (0, 0))) : p.v.frozen? ⟨b, i, none⟩ = false :=
  unfrozen_of_block ((p.h.block b hb hS).trans h) i
end Go.Proofs.YtfgaohilpbocbaaGreatDoor
end

section
namespace Go.Proofs.YtfgaohilpbocbaaGreatDoor
open Go.ChangeShapes Go.WideShapes Go.ChangeAt Go.RowKit Go.Joins
set_option linter.unusedVariables false

/-- An Out (block b) that has s, beside it a row v of one's own that reads as W, and a block p, which is neither's. -/
structure MidB (Od : (Nat → Prop) → World → Nat → Option (List Nat) → Nat → Prop) (w0 : World) (b q p : Nat) (ob : Obj) (w : World) (v : Value) (s : Option (List Nat)) (W : List Nat) : Prop where
  own : OwnB w v W
  od : ∃ X, Od X w b s q ∧ ∀ j, X j → w0.heap.size ≤ j ∧ v.ownBlock ≠ some j ∧ j ≠ p
  low : ∀ j, v.ownBlock = some j → w0.heap.size ≤ j ∧ j ≠ p
  below : Below w0.heap.size w0 w
  box : w.heap[p]? = some ob
variable {Od : (Nat → Prop) → World → Nat → Option (List Nat) → Nat → Prop}
theorem MidB.mid {w0 w : World} {b q p : Nat} {ob : Obj} {v : Value} {s : Option (List Nat)} {W : List Nat} (h : MidB Od w0 b q p ob w v s W) : Mid Od w0 b q w v s W := by
  obtain ⟨X, h1, h2⟩ := h.od
  exact ⟨h.own, ⟨X, h1, fun j hj => ⟨(h2 j hj).1, (h2 j hj).2.1⟩⟩, fun j hj => (h.low j hj).1, h.below⟩
theorem OwnB.lt {w : World} {v : Value} {l : List Nat} (h : OwnB w v l) (j : Nat) (e : v.ownBlock = some j) : j < w.heap.size := by
  rcases h.2 with ⟨e1, _⟩ | ⟨g, cap, cur, e1, _, hg, _⟩
  · rw [e1] at e; cases e
  · rw [e1] at e
    cases e
    exact (Array.getElem?_eq_some_iff.1 hg).1
theorem Mid.box (HC : OutC Od) {w0 w : World} {b q : Nat} {v : Value} {s : Option (List Nat)} {W : List Nat} (h : Mid Od w0 b q w v s W) (cs : Array Value) (t : TypeId) : MidB Od w0 b q w.heap.size (.cells cs t (0, 0)) (w.alloc (.cells cs t)) v s W := by
  have h' := h.later HC ((Below.refl _ _).alloc (Nat.le_refl _) (.cells cs t))
  obtain ⟨X, h1, h2⟩ := h.od
  refine ⟨h'.own, ⟨X, HC.keep h1 (Fr.of_below (X := fun _ => False) ((Below.refl _ _).alloc (Nat.le_refl _) _)) (fun _ _ h => h), fun j hj => ⟨(h2 j hj).1, (h2 j hj).2, ?_⟩⟩, fun j hj => ⟨h.low j hj, ?_⟩, h'.below, heap_alloc_last w _⟩
  · have := HC.lt h1 j hj
    omega
  · have := h.own.lt j hj
    omega
theorem MidB.blk {w0 w : World} {b q p : Nat} {ob : Obj} {v : Value} {s : Option (List Nat)} {W : List Nat} (h : MidB Od w0 b q p ob w v s W) : p < w.heap.size := (Array.getElem?_eq_some_iff.1 h.box).1
theorem MidB.later (HC : OutC Od) {w0 w w' : World} {b q p : Nat} {ob : Obj} {v : Value} {s : Option (List Nat)} {W : List Nat} (h : MidB Od w0 b q p ob w v s W) (k : Below w.heap.size w w') : MidB Od w0 b q p ob w' v s W := by
  obtain ⟨X, h1, h2⟩ := h.od
  exact ⟨h.own.fr (Fr.of_below (X := fun _ => False) k) (fun _ _ h => h), ⟨X, HC.keep h1 (Fr.of_below (X := fun _ => False) k) (fun _ _ h => h), h2⟩, h.low, h.below.trans (k.mono h.below.size), (k.block p h.blk).trans h.box⟩
/-- Something is put. -/
theorem MidB.put (HC : OutC Od) {w0 w : World} {b q q' p : Nat} {ob : Obj} {v : Value} {s s' : Option (List Nat)} {W : List Nat} (h : MidB Od w0 b q p ob w v s W) {f : FuncId} {args : Array Value}
    (hc : ∀ X, Od X w b s q → Calls Tryz.prog f args w (OutPost Od X w b s' q')) : Calls Tryz.prog f args w fun e w' => e = .returned (.tuple #[]) ∧ MidB Od w0 b q' p ob w' v s' W := by
  obtain ⟨X, h1, h2⟩ := h.od
  refine (hc X h1).mono ?_
  rintro e w' ⟨rfl, X', h3, h4, h5⟩
  refine ⟨rfl, h.own.fr h5 (fun j hj hX => (h2 j hX).2.1 hj), ⟨X', h3, fun j hj => ?_⟩, h.low, h.below.trans (h5.below h.below.size fun j hj hX => by have := (h2 j hX).1; omega), (h5.block p h.blk fun e => (h2 p e).2.2 rfl).trans h.box⟩
  rcases h4 j hj with h6 | h6
  · exact h2 j h6
  · have := h.below.size
    have hp := h.blk
    exact ⟨by omega, fun e => by have := h.own.lt j e; omega, by omega⟩
/-- Bytes are appended to the row. -/
theorem MidB.add (HC : OutC Od) {w0 w w' : World} {b q p : Nat} {ob : Obj} {v v' : Value} {s : Option (List Nat)} {W m : List Nat} (h : MidB Od w0 b q p ob w v s W) (h1 : OwnB w' v' (W ++ m)) (h2 : w.grownBy w' v.ownBlock) (h3 : v'.ownBlock = v.ownBlock ∨ v'.ownBlock = some w.heap.size) : MidB Od w0 b q p ob w' v' s (W ++ m) := by
  obtain ⟨X, k1, k2⟩ := h.od
  have hf : Fr (fun j => v.ownBlock = some j) w w' := Fr.of_grown h2 fun j e => e
  have hp := h.blk
  refine ⟨h1, ⟨X, HC.keep k1 hf fun j hj e => (k2 j hj).2.1 e, fun j hj => ⟨(k2 j hj).1, fun e => ?_, (k2 j hj).2.2⟩⟩, fun j hj => ?_, h.below.trans (hf.below h.below.size fun j hj e => by have := (h.low j e).1; omega), (hf.block p hp fun e => (h.low p e).2 rfl).trans h.box⟩
  · rcases h3 with h4 | h4
    · rw [h4] at e; exact (k2 j hj).2.1 e
    · rw [h4] at e
      have := HC.lt k1 j hj
      have := Option.some.inj e
      omega
  · rcases h3 with h4 | h4
    · exact h.low j (by rw [← h4]; exact hj)
    · rw [h4] at hj
      have := Option.some.inj hj
      have := h.below.size
      exact ⟨by omega, by omega⟩
theorem MidB.mono (HC : OutC Od) {w0 w : World} {b q q' p : Nat} {ob : Obj} {v : Value} {s : Option (List Nat)} {W : List Nat} (h : MidB Od w0 b q p ob w v s W) (hq : q ≤ q') : MidB Od w0 b q' p ob w v s W := by
  obtain ⟨X, h1, h2⟩ := h.od
  exact ⟨h.own, ⟨X, HC.mono h1 hq, h2⟩, h.low, h.below, h.box⟩
/-- Bytes appended, where the order is open. -/
theorem wp_addB {o : Oper} {a : Act} {K : Act → World → Prop} {Q : Exit → Act → World → Prop} (w : World) (s x : Operand)
    (ho : o.op = .call { callee := .builtin .append, args := #[s, x], argTypes := #[53, 53] })
    (v : Value) (l : List Nat) (hsv : a.eval s = v) (hown : OwnB w v l) (ga : Option Addr) (gc q : Nat) (m : List Nat) (hxv : a.eval x = .slice ga q gc) (hq : m.length = q) (hs : Sl w ga gc m) (hn : l.length + m.length ≤ 1000000)
    (h : ∀ v' w', Hid (OwnB w' v' (l ++ m)) → Hid (w.grownBy w' v.ownBlock) → Hid (v'.ownBlock = v.ownBlock ∨ v'.ownBlock = some w.heap.size) → K (a.put o.dst v') w') : o.wp Tryz.prog a w K Q := by
  subst hq
  obtain ⟨v', w', hr, h2, h3, h4⟩ := run_addB w o.type hown ga gc m hs hn
  unfold Oper.wp execOp
  simp only [ho, resolve, invoke, builtin, Sem.run_bind, Sem.run_pure, Result.andThen_ok, List.map_toArray, List.map_cons, List.map_nil, hsv, hxv, hr]
  exact h v' w' h2 h3 h4
end Go.Proofs.YtfgaohilpbocbaaGreatDoor
end

section
namespace Go.Proofs.YtfgaohilpbocbaaGreatDoor
open Go.ChangeShapes Go.WideShapes Go.ChangeAt Go.RowKit Go.Joins
set_option linter.unusedVariables false

/-- Behind w0 a row v of one's own that reads as l. -/
structure Acc (w0 w : World) (v : Value) (l : List Nat) : Prop where
  own : OwnB w v l
  low : ∀ j, v.ownBlock = some j → w0.heap.size ≤ j
  below : Below w0.heap.size w0 w
theorem Acc.later {w0 w w' : World} {v : Value} {l : List Nat} (h : Acc w0 w v l) (k : Below w.heap.size w w') : Acc w0 w' v l :=
  ⟨h.own.fr (Fr.of_below (X := fun _ => False) k) (fun _ _ h => h), h.low, h.below.trans (k.mono h.below.size)⟩
theorem Acc.add {w0 w w' : World} {v v' : Value} {l m : List Nat} (h : Acc w0 w v l) (h1 : OwnB w' v' (l ++ m)) (h2 : w.grownBy w' v.ownBlock) (h3 : v'.ownBlock = v.ownBlock ∨ v'.ownBlock = some w.heap.size) : Acc w0 w' v' (l ++ m) := by
  refine ⟨h1, fun j hj => ?_, h.below.grown h2 h.below.size fun k hk => h.low k hk⟩
  rcases h3 with h4 | h4
  · exact h.low j (by rw [← h4]; exact hj)
  · rw [h4] at hj
    have := Option.some.inj hj
    have := h.below.size
    omega
theorem Acc.base {w0 w1 w : World} {v : Value} {l : List Nat} (h : Acc w1 w v l) (k : Below w0.heap.size w0 w1) : Acc w0 w v l :=
  ⟨h.own, fun j hj => Nat.le_trans k.size (h.low j hj), k.trans (h.below.mono k.size)⟩
theorem Acc.nil {w0 w : World} (h : Below w0.heap.size w0 w) : Acc w0 w (.slice none 0 0) [] := ⟨OwnB.nil _, fun j hj => by simp [Value.ownBlock] at hj, h⟩
/-- A row that a call has made, whole. -/
theorem OwnB.of_row {w : World} {B n : Nat} {l : List Nat} (h : Row w B 5 n n (vOf l)) (hl : l.length = n) (hn : n ≤ maxLen) : OwnB w (.slice (some ⟨B, 0, none⟩) n n) l := by
  refine ⟨by simp, .inr ⟨B, n, rowArr n (vOf l), by rw [hl], Nat.zero_le _, h.whole, Nat.le_of_eq hl, hn, by rw [rowArr_size, Nat.mul_one], ?_⟩⟩
  rw [Nat.mul_one, hl]
  unfold rowArr
  rw [List.take_of_length_le (by simp)]
  apply List.ext_getElem?
  intro i
  by_cases hi : i < n
  · have hi2 : i < l.length := by omega
    simp [hi, hi2, vOf, List.getD]
  · have hi2 : l.length ≤ i := by omega
    simp [hi, hi2]
theorem Acc.of_new {w0 w w' : World} {l : List Nat} {n : Nat} (h : NewTo w w' l n) (hl : l.length = n) (hn : n ≤ 1000000) (k : Below w0.heap.size w0 w) : Acc w0 w' (.slice (some ⟨w.heap.size, 0, none⟩) n n) l := by
  refine ⟨OwnB.of_row (by have := h.row; rw [hl] at this; exact this) hl (by unfold maxLen; omega), fun j hj => ?_, k.trans (h.below.mono k.size)⟩
  have : w.heap.size = j := by simpa [Value.ownBlock] using hj
  have := k.size
  omega
/-- A row written out. -/
theorem row_of_cells (w : World) (l : List Nat) (cs : Array Value) (h : cs = rowArr l.length (vOf l)) : Row (w.alloc (.cells cs 5)) w.heap.size 5 l.length l.length (vOf l) := by
  subst h
  exact Row.of_whole (heap_alloc_last w _)

def u64N (z : Int) : Nat := (z % 18446744073709551616).toNat
def u8N (z : Int) : Nat := (z % 256).toNat
theorem u64N_lt (z : Int) : u64N z < 18446744073709551616 := by unfold u64N; omega
theorem u8N_lt (z : Int) : u8N z < 256 := by unfold u8N; omega
theorem u64_wrap (z : Int) : IntKind.u64.wrap z = (u64N z : Int) := by rw [IntKind.wrap_u64]; unfold u64N; omega
theorem u8_wrap (z : Int) : IntKind.u8.wrap z = (u8N z : Int) := by
  unfold u8N
  simp [IntKind.wrap, IntKind.signed, IntKind.bits]
  omega
/-- The body of a main packet; of a symbol's. -/
def mainN (s f n : Int) : List Nat := wideN (u64N s) 2 ++ [u8N f] ++ wideN (u64N n) 2
def symbolN (id : Nat) (d : List Nat) : List Nat := wideN id 4 ++ d

theorem NewTo.one {w w' : World} {l : List Nat} {n : Nat} (h : NewTo w w' l n) (hl : l.length = n) (hb : IsByte l) (hn : n ≤ 1000000) : Sl w' (some ⟨w.heap.size, 0, none⟩) n l := by
  subst hl
  exact h.sl hb hn

set_option maxRecDepth 100000 in
set_option maxHeartbeats 1000000 in
theorem refMain_any (s f n : Int) (w : World) (hs : i64R s) (hf : i64R f) (hn : i64R n) :
    Calls Tryz.prog 89 #[.int .i64 s, .int .i64 f, .int .i64 n] w fun e w' => ∃ v, e = .returned v ∧ Acc w w' v (mainN s f n) := by
  have HW1 := Lib.hid (wide_any (u64N s) 2 w (u64N_lt s) (by omega))
  have HW2 : Hid (∀ w, Calls Tryz.prog 77 #[.int .u64 (u64N n : Int), .int .i64 (2 : Nat)] w fun e w' => e = .returned (.slice (some ⟨w.heap.size, 0, none⟩) 2 2) ∧ NewTo w w' (wideN (u64N n) 2) 2) := fun w => wide_any (u64N n) 2 w (u64N_lt n) (by omega)
  have e1 := u64_wrap s
  have e2 := u64_wrap n
  have e3 := u8_wrap f
  have h8 := u8N_lt f
  obtain ⟨S, hS⟩ : ∃ S, S = u64N s := ⟨_, rfl⟩
  obtain ⟨M, hM⟩ : ∃ M, M = u64N n := ⟨_, rfl⟩
  obtain ⟨F, hF⟩ : ∃ F, F = u8N f := ⟨_, rfl⟩
  have HR : Hid (mainN s f n = wideN S 2 ++ [F] ++ wideN M 2) := by unfold mainN; rw [hS, hM, hF]; rfl
  rw [← hS] at HW1 e1
  rw [← hM] at HW2 e2
  rw [← hF] at e3 h8
  clear hS hM hF hs hf hn
  go_enter Tryz.func89, Tryz.ntmps89
  go_wp2_with fail
  refine HW1.out.mono ?_
  rintro e w1 ⟨rfl, hn1⟩
  have HA1 := Lib.hid (Acc.of_new hn1 (wideN_len _ _) (by omega) (Below.refl w.heap.size w))
  have HB1 : Hid (Below w1.heap.size w1 (w1.alloc (.cells #[.int .u8 (F : Int)] 5))) := (Below.refl _ _).alloc (Nat.le_refl _) _
  have HY1 : Hid (Sl (w1.alloc (.cells #[.int .u8 (F : Int)] 5)) (some ⟨w1.heap.size, 0, none⟩) 1 [F]) := Row.sl (row_of_cells w1 [F] _ rfl) rfl (by intro x hx; simp at hx; omega) (by unfold maxLen; simp)
  clear hn1 HW1
  go_wp2_with (at_builtin; refine wpList_addB _ rfl _ _ rfl (.slice (some ⟨w.heap.size, 0, none⟩) 2 2) (wideN S 2) rfl (HA1.out.later HB1.out).own (some ⟨w1.heap.size, 0, none⟩) 1 1 [F] rfl rfl HY1.out (by rw [wideN_len]; simp) ?_; intro v2 w2 o2 g2 e2')
  have HA2 := Lib.hid ((HA1.out.later HB1.out).add o2.out g2.out e2'.out)
  have HWD := Lib.hid (HW2.out w2)
  clear HA1 HB1 HY1 o2 g2 e2'
  go_wp2_with fail
  refine HWD.out.mono ?_
  rintro e w3 ⟨rfl, hn3⟩
  have HA3 := Lib.hid (HA2.out.later hn3.below)
  have HY3 := Lib.hid (hn3.one (wideN_len _ _) (wideN_byte _ _) (by omega))
  clear hn3 HWD HA2
  go_wp2_with (at_builtin; refine wpList_addB _ rfl _ _ rfl v2 (wideN S 2 ++ [F]) rfl HA3.out.own (some ⟨w2.heap.size, 0, none⟩) 2 2 (wideN M 2) rfl (wideN_len _ _) HY3.out (by rw [List.length_append, wideN_len, wideN_len]; simp) ?_; intro v4 w4 o4 g4 e4)
  have HA4 := Lib.hid (HA3.out.add o4.out g4.out e4.out)
  clear HA3 HY3 o4 g4 e4
  go_ret
  exact ⟨v4, rfl, by rw [HR.out]; exact HA4.out⟩
end Go.Proofs.YtfgaohilpbocbaaGreatDoor
end
