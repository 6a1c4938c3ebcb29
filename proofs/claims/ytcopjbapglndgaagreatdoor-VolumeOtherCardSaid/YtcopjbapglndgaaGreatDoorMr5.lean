/-
  As GrowT, where behind the last operation a variable is set. Nothing of the program's dump is named here.
  As GrowK, where behind the last operation a variable is set. Nothing of the program's dump is named here.
  Statements that leave their order open and write: a class of worlds in which all but some blocks stay.
  Layer 13's law CodecWrites: an Out, the row of bytes beside it, and the item at hand.
  Bytes gathered by append, in a document's text: an account that says where they lie; the document's Main and Symbol.
  The CRC in numbers: one halving, eight of them for a byte, a fold for a list; that halvings are linear (exclusive or), and what follows for tables and for windows that roll.
  SHA-256 in numbers: rotations, the two mixing functions, the words of a block, the rounds, the blocks of a padded message, and the bytes of the end.
  Bytes in memory, as the texts of the digest and of the CRC have them (a namespace of their own).
  A row of cells that a call fills, one after the other: the block as a whole.
-/
import Derived.Test.YtcopjbapglndgaaGreatDoorMr4
import Derived.Laws.BitsAllLaws
import Derived.Test.YtcopjbapglndgaaGreatDoorRows
import Derived.WalkKit
import Derived.ProofKit
import Derived.OpenShut
import Derived.Below
import Derived.WalkSpells
import Derived.WalkLawsBesides
import Derived.Outline
import Derived.Deep.QuietTactic
import Derived.BigQuiet
import Derived.Lib.Hide
import Derived.Lib.SmallJoins
import Derived.Deep.WholeRow
section
namespace Go.Proofs.YtcopjbapglndgaaGreatDoor
open Go.RowKit Go.Sort
set_option linter.unusedVariables false

section
variable {P : Program} {ops : Array Oper} {Q : Exit → Act → World → Prop} {C : World → Prop} {last : Nat}

/-- A variable that is set: it may come up behind the last one. -/
def looseU (ops : Array Oper) (i : Nat) : Bool := match ops[i]? with
  | some o => (match o.op with | .assign .. => true | _ => false)
  | none => false
/-- Each operation that has not come up, but the last one and parts of tuples, is waited for by a later one that has not come up. -/
def SinkU (ops : Array Oper) (last : Nat) (listed : Array Bool) : Prop :=
  ∀ i, i ≠ last → looseU ops i = false → listed.getD i true = false → ∃ j oj, i < j ∧ (j = last ∨ looseU ops j = false) ∧ listed.getD j true = false ∧ ops[j]? = some oj ∧ ∃ e ∈ oj.after, Region.binds .any e = true ∧ e.on = i
def sinkUB (ops : Array Oper) (last : Nat) (listed : Array Bool) : Bool :=
  (List.range listed.size).all fun i => i == last || looseU ops i || listed.getD i true || (List.range listed.size).any fun j => decide (i < j) && (j == last || !looseU ops j) && !listed.getD j true && (match ops[j]? with | some oj => oj.after.any fun e => Region.binds .any e && e.on == i | none => false)
theorem sinkU_of {listed : Array Bool} (h : sinkUB ops last listed = true) : SinkU ops last listed := fun i hi hlo hu => by
  unfold sinkUB at h
  rw [List.all_eq_true] at h
  have h1 := h i (List.mem_range.2 (lt_of_unlisted hu))
  simp only [hu, hlo, Bool.or_false, Bool.or_eq_true, beq_iff_eq] at h1
  rcases h1 with h1 | h1
  · exact absurd h1 hi
  · obtain ⟨j, hj, h2⟩ := List.any_eq_true.1 h1
    simp only [Bool.and_eq_true, Bool.or_eq_true, beq_iff_eq, decide_eq_true_eq, Bool.not_eq_true'] at h2
    obtain ⟨⟨⟨h3, h3'⟩, h4⟩, h5⟩ := h2
    cases ho : ops[j]? with
    | none => rw [ho] at h5; simp at h5
    | some oj =>
      rw [ho] at h5
      obtain ⟨e, he, hb⟩ := Array.any_eq_true'.1 h5
      simp only [Bool.and_eq_true, beq_iff_eq] at hb
      exact ⟨j, oj, h3, h3', h4, ho, e, he, hb.1, hb.2⟩
theorem SinkU.set {listed : Array Bool} {r : Nat} (h : SinkU ops last listed) (hr : r ∈ Region.ready .any ops listed) : SinkU ops last (listed.setIfInBounds r true) := fun i hi hlo hu => by
  have hir : r ≠ i := fun e => by
    subst e
    have hlt := lt_of_unlisted (mem_ready.1 hr).1
    simp [hlt] at hu
  rw [getD_set_ne true hir] at hu
  obtain ⟨j, oj, h1, h1', h2, h3, e, he, hb, hon⟩ := h i hi hlo hu
  have hrj : r ≠ j := fun e' => by subst e'; exact unready hu h3 he hb hon hr
  exact ⟨j, oj, h1, h1', by rw [getD_set_ne true hrj]; exact h2, h3, e, he, hb, hon⟩
theorem SinkU.late {listed : Array Bool} (h : SinkU ops last listed) : ∀ (n i : Nat), listed.size - i ≤ n → i ≠ last → looseU ops i = false → listed.getD i true = false → last ∉ Region.ready .any ops listed
  | 0, i, hn, hi, _, hu => by have := lt_of_unlisted hu; omega
  | n + 1, i, hn, hi, hlo, hu => by
    obtain ⟨j, oj, h1, h1', h2, h3, e, he, hb, hon⟩ := h i hi hlo hu
    by_cases hj : j = last
    · subst hj; exact unready hu h3 he hb hon
    · exact SinkU.late h n j (by have := lt_of_unlisted hu; omega) hj (h1'.resolve_left hj) h2

theorem wpAnyU_first {i : Nat} {oi : Oper} {v : Value} (hi : ops[i]? = some oi) (hil : i ≠ last) (hlo : looseU ops i = false) (hsel : ∀ (j : Nat) (o : Oper) cs b, ops[j]? = some o → o.op ≠ .select cs b)
    (hQ : ∀ c a w, Q (.panic c) (a.put oi.dst v) w → Q (.panic c) a w) :
    ∀ (fuel : Nat) (listed : Array Bool) (a : Act) (w : World),
      (∀ j oj, ops[j]? = some oj → j ≠ i → listed.getD j true = false → (∀ e ∈ oj.after, Region.binds .any e = true → e.on ≠ i) → oi.apart ops oj = true) → SinkU ops last listed → listed.getD last true = false →
      i ∈ Region.ready .any ops listed → YieldsIf P ops C oi v a → C w →
      wpAnyT P ops Q C last fuel (listed.setIfInBounds i true) (a.put oi.dst v) w → wpAnyT P ops Q C last (fuel + 1) listed a w := by
  intro fuel
  induction fuel with
  | zero =>
    intro listed a w _ _ _ hr hy hS H
    refine ⟨fun h => (by rw [h] at hr; cases hr), fun j hj => ?_⟩
    by_cases hji : j = i
    · subst hji; exact hy.wpOp hi hS ⟨fun _ => hS, H⟩
    · have := ready_mono hj hji
      rw [H.1] at this
      cases this
  | succ fuel ih =>
    intro listed a w hfree hsink hlu hr hy hS H
    refine ⟨fun h => (by rw [h] at hr; cases hr), fun j hj => ?_⟩
    by_cases hji : j = i
    · subst hji; exact hy.wpOp hi hS ⟨fun _ => hS, H⟩
    · have hjl : j ≠ last := fun e => by
        subst e
        exact hsink.late listed.size i (by omega) hil hlo (mem_ready.1 hr).1 hj
      have h1 := H.2 j (ready_mono hj hji)
      obtain ⟨hjun, oj, hoj, hall⟩ := mem_ready.1 hj
      have hnot : ∀ e ∈ oj.after, Region.binds .any e = true → e.on ≠ i := fun e he hb heq => unready (mem_ready.1 hr).1 hoj he hb heq hj
      have h2 := wpOp_putIf hoj (hfree j oj hoj hji hjun hnot) (fun cs b => hsel i oi cs b hi) (fun cs b => hsel j oj cs b hoj) hQ hy h1
      have hfree' : ∀ k ok, ops[k]? = some ok → k ≠ i → (listed.setIfInBounds j true).getD k true = false →
          (∀ e ∈ ok.after, Region.binds .any e = true → e.on ≠ i) → oi.apart ops ok = true := fun k ok hk hki hun hno => by
        refine hfree k ok hk hki ?_ hno
        by_cases hjk : j = k
        · subst hjk; exact hjun
        · rw [getD_set_ne true hjk] at hun; exact hun
      have hlu2 : (listed.setIfInBounds j true).getD last true = false := by rw [getD_set_ne true hjl]; exact hlu
      have hlu3 : ((listed.setIfInBounds i true).setIfInBounds j true).getD last true = false := by rw [getD_set_ne true hjl, getD_set_ne true hil]; exact hlu
      refine wpOp_mono (fun a' w' h3 => ⟨fun _ => h3.2.1 hlu3, ih (listed.setIfInBounds j true) a' w' hfree' (hsink.set hj) hlu2 (ready_mono hr (Ne.symm hji)) h3.1 (h3.2.1 hlu3) ?_⟩) h2
      rw [Array.setIfInBounds_comm _ _ hji]
      exact h3.2.2

theorem wpAnyU_take {i : Nat} {oi : Oper} {v : Value} {fuel : Nat} {listed : Array Bool} {a : Act} {w : World} (hi : ops[i]? = some oi) (hil : i ≠ last) (hlo : looseU ops i = false) (hsink : SinkU ops last listed) (hlu : listed.getD last true = false)
    (hs : Region.noSelect ops = true) (hf : Region.free .any ops listed i = true) (hr : (Region.ready .any ops listed).contains i = true)
    (hQ : ∀ c a w, Q (.panic c) (a.put oi.dst v) w → Q (.panic c) a w) (hy : YieldsIf P ops C oi v a) (hS : C w)
    (h : wpAnyT P ops Q C last fuel (listed.setIfInBounds i true) (a.put oi.dst v) w) : wpAnyT P ops Q C last (fuel + 1) listed a w :=
  wpAnyU_first hi hil hlo (Region.noSelect_spec hs) hQ fuel listed a w (Region.free_spec hi hf) hsink hlu (by simpa using hr) hy hS h
/-- These operations may come up one behind the other, each plain, none the last one. -/
def takesU (ops : Array Oper) (last : Nat) : List Nat → Array Bool → Bool
  | [], _ => true
  | i :: is, listed => (Region.ready .any ops listed).contains i && Region.free .any ops listed i && (!looseU ops i && (sinkUB ops last listed && !listed.getD last true)) && !(i == last) && ((ops[i]?).map fun o => plainOp o.op).getD false && takesU ops last is (listed.setIfInBounds i true)

theorem growU_take (hs : Region.noSelect ops = true) : ∀ (is : List Nat) (n : Nat) (listed : Array Bool) (a : Act), takesU ops last is listed = true →
    wpQuiet P ops C (fun a' => ∀ w, C w → wpAnyT P ops (NoPanic Q) C last n (marks is listed) a' w) (opsAt ops is) a → ∀ w, C w → wpAnyT P ops (NoPanic Q) C last (n + is.length) listed a w
  | [], n, listed, a, _, h, w, hw => h w hw
  | i :: is, n, listed, a, hB, h, w, hw => by
    simp only [takesU, Bool.and_eq_true, Bool.not_eq_true', beq_eq_false_iff_ne] at hB
    obtain ⟨⟨⟨⟨⟨hr, hf⟩, hlo, hk1, hk2⟩, hil⟩, hp⟩, hB'⟩ := hB
    cases ho : ops[i]? with
    | none => rw [ho] at hp; simp at hp
    | some o =>
      rw [ho] at hp
      have hp' : plainOp o.op = true := by simpa using hp
      simp only [opsAt, ho, wpQuiet] at h
      have key : ∃ v, YieldsIf P ops C o v a ∧ wpQuiet P ops C (fun a' => ∀ w, C w → wpAnyT P ops (NoPanic Q) C last n (marks is (listed.setIfInBounds i true)) a' w) (opsAt ops is) (a.put o.dst v) := by
        by_cases hwt : Region.wanted o (yielded ops a.tmps) = true
        · rw [if_pos hwt] at h
          obtain ⟨v, h1, h2⟩ := h
          exact ⟨v, yieldsIf_of_quiet hp' hwt h1, h2⟩
        · rw [if_neg hwt] at h
          exact ⟨undef, .inr ⟨by simpa using hwt, rfl⟩, h⟩
      obtain ⟨v, hy, hq⟩ := key
      have rest := growU_take hs is n (listed.setIfInBounds i true) (a.put o.dst v) hB' hq w hw
      exact wpAnyU_take ho hil hlo (sinkU_of hk1) hk2 hs hf hr (fun _ _ _ h => h) hy hw rest

/-- The last one, and the variable that is set behind it. -/
theorem growU_last {i n : Nat} {listed : Array Bool} {a : Act} {w0 w : World} (hr : Region.ready .any ops listed = [last]) (h2 : Region.ready .any ops (listed.setIfInBounds last true) = [i]) (hil : i ≠ last) (hd : Region.ready .any ops ((listed.setIfInBounds last true).setIfInBounds i true) = [])
    (h : ∀ K : Act → World → Prop, Shut (∀ a' w1, stepOf P ops (NoPanic Q) (fun a2 w2 => Q .normal a2 w2) a' w1 ops[i]? → K a' w1) → stepOf P ops (NoPanic Q) K a w ops[last]?) : wpAnyT P ops (NoPanic Q) (fun w' => ∃ p : Regrown, w' = grow (redrawn w0 p.d) p.os) last (n + 2) listed a w := by
  refine wpAnyT_all hr (by simp) fun j hj => ?_
  obtain rfl : j = last := by simpa using hj
  have hone : ∀ {K : Act → World → Prop} {q : Nat} {a1 : Act} {w1 : World}, stepOf P ops (NoPanic Q) K a1 w1 ops[q]? → wpOp P ops (NoPanic Q) q K a1 w1 := fun {K q a1 w1} hs => by
    unfold wpOp
    cases ho : ops[q]? with
    | none => rw [ho] at hs; exact hs.elim
    | some o =>
      rw [ho] at hs
      simp only [stepOf] at hs
      show if Region.wanted o (yielded ops a1.tmps) = true then _ else _
      by_cases hwt : Region.wanted o (yielded ops a1.tmps) = true
      · rw [if_pos hwt] at hs ⊢; exact .inl hs
      · rw [if_neg hwt] at hs ⊢; exact hs
  refine hone (h _ (fun a' w1 hq => ⟨fun e => (by rw [getD_set_self] at e; cases e), ?_⟩))
  refine wpAnyT_all h2 (by simp) fun q hq' => ?_
  obtain rfl : q = i := by simpa using hq'
  refine wpOp_mono (fun a2 w2 hq2 => ⟨fun e => ?_, wpAnyT_done hd (NoPanic.normal hq2) n⟩) (hone hq)
  rw [getD_set_ne true hil, getD_set_self] at e
  cases e
end
end Go.Proofs.YtcopjbapglndgaaGreatDoor
end

section
namespace Go.Proofs.YtcopjbapglndgaaGreatDoor
open Go.RowKit Go.Sort
set_option linter.unusedVariables false

section
variable {P : Program} {ops : Array Oper} {Q : Exit → Act → World → Prop} {C : World → Prop} {last : Nat}

theorem growKU_last {i n : Nat} {listed : Array Bool} {a : Act} {w : World} (hr : Region.ready .any ops listed = [last]) (h2 : Region.ready .any ops (listed.setIfInBounds last true) = [i]) (hil : i ≠ last) (hd : Region.ready .any ops ((listed.setIfInBounds last true).setIfInBounds i true) = [])
    (h : ∀ K : Act → World → Prop, Shut (∀ a' w1, stepOf P ops (NoPanic Q) (fun a2 w2 => Q .normal a2 w2) a' w1 ops[i]? → K a' w1) → stepOf P ops (NoPanic Q) K a w ops[last]?) : wpAnyT P ops (NoPanic Q) C last (n + 2) listed a w := by
  refine wpAnyT_all hr (by simp) fun j hj => ?_
  obtain rfl : j = last := by simpa using hj
  have hone : ∀ {K : Act → World → Prop} {q : Nat} {a1 : Act} {w1 : World}, stepOf P ops (NoPanic Q) K a1 w1 ops[q]? → wpOp P ops (NoPanic Q) q K a1 w1 := fun {K q a1 w1} hs => by
    unfold wpOp
    cases ho : ops[q]? with
    | none => rw [ho] at hs; exact hs.elim
    | some o =>
      rw [ho] at hs
      simp only [stepOf] at hs
      show if Region.wanted o (yielded ops a1.tmps) = true then _ else _
      by_cases hwt : Region.wanted o (yielded ops a1.tmps) = true
      · rw [if_pos hwt] at hs ⊢; exact .inl hs
      · rw [if_neg hwt] at hs ⊢; exact hs
  refine hone (h _ (fun a' w1 hq => ⟨fun e => (by rw [getD_set_self] at e; cases e), ?_⟩))
  refine wpAnyT_all h2 (by simp) fun q hq' => ?_
  obtain rfl : q = i := by simpa using hq'
  refine wpOp_mono (fun a2 w2 hq2 => ⟨fun e => ?_, wpAnyT_done hd (NoPanic.normal hq2) n⟩) (hone hq)
  rw [getD_set_ne true hil, getD_set_self] at e
  cases e
end
end Go.Proofs.YtcopjbapglndgaaGreatDoor
end

section
namespace Go.Proofs.YtcopjbapglndgaaGreatDoor
open Go.ChangeShapes Go.WideShapes Go.ChangeAt Go.RowKit Go.Joins
set_option linter.unusedVariables false

/-- Worlds that have what W has, but for the blocks that S names. -/
structure KeepW (W : World) (S : Nat → Prop) where
  v : World
  h : Fr S W v
instance keepW_some (W : World) (S : Nat → Prop) : Nonempty (KeepW W S) := ⟨⟨W, Fr.refl _ _⟩⟩
theorem keep_class {W w : World} {S : Nat → Prop} (h : Fr S W w) : ∃ p : KeepW W S, w = p.v := ⟨⟨w, h⟩, rfl⟩
theorem KeepW.cell {W : World} {S : Nat → Prop} (p : KeepW W S) {b i : Nat} (hb : b < W.heap.size) (hS : ¬ S b) : p.v.cell? ⟨b, i, none⟩ = W.cell? ⟨b, i, none⟩ :=
  World.cell?_of_block (a := ⟨b, i, none⟩) (p.h.block b hb hS)
theorem KeepW.loose {W : World} {S : Nat → Prop} (p : KeepW W S) {b i : Nat} (hb : b < W.heap.size) (hS : ¬ S b) {cs : Array Value} {t : TypeId} (h : W.heap[b]? = some (.cells cs t (0, 0))) : p.v.frozen? ⟨b, i, none⟩ = false :=
  unfrozen_of_block ((p.h.block b hb hS).trans h) i
end Go.Proofs.YtcopjbapglndgaaGreatDoor
end

section
namespace Go.Proofs.YtcopjbapglndgaaGreatDoor
open Go.ChangeShapes Go.WideShapes Go.ChangeAt Go.RowKit Go.Joins
set_option linter.unusedVariables false

/-- An Out (block b) that has s, beside it a row v of one's own that reads as W, and a block p, which is neither's. -/
structure MidB (Od : (Nat → Prop) → World → Nat → Option (List Nat) → Nat → Prop) (w0 : World) (b q p : Nat) (ob : Obj) (w : World) (v : Value) (s : Option (List Nat)) (W : List Nat) : Prop where
  own : OwnB w v W
  od : ∃ X, Od X w b s q ∧ ∀ j, X j → w0.heap.size ≤ j ∧ v.ownBlock ≠ some j ∧ j ≠ p
  low : ∀ j, v.ownBlock = some j → w0.heap.size ≤ j ∧ j ≠ p
  below : Below w0.heap.size w0 w
  box : w.heap[p]? = some ob
variable {Od : (Nat → Prop) → World → Nat → Option (List Nat) → Nat → Prop}
theorem MidB.mid {w0 w : World} {b q p : Nat} {ob : Obj} {v : Value} {s : Option (List Nat)} {W : List Nat} (h : MidB Od w0 b q p ob w v s W) : Mid Od w0 b q w v s W := by
  obtain ⟨X, h1, h2⟩ := h.od
  exact ⟨h.own, ⟨X, h1, fun j hj => ⟨(h2 j hj).1, (h2 j hj).2.1⟩⟩, fun j hj => (h.low j hj).1, h.below⟩
theorem OwnB.lt {w : World} {v : Value} {l : List Nat} (h : OwnB w v l) (j : Nat) (e : v.ownBlock = some j) : j < w.heap.size := by
  rcases h.2 with ⟨e1, _⟩ | ⟨g, cap, cur, e1, _, hg, _⟩
  · rw [e1] at e; cases e
  · rw [e1] at e
    cases e
    exact (Array.getElem?_eq_some_iff.1 hg).1
theorem Mid.box (HC : OutC Od) {w0 w : World} {b q : Nat} {v : Value} {s : Option (List Nat)} {W : List Nat} (h : Mid Od w0 b q w v s W) (cs : Array Value) (t : TypeId) : MidB Od w0 b q w.heap.size (.cells cs t (0, 0)) (w.alloc (.cells cs t)) v s W := by
  have h' := h.later HC ((Below.refl _ _).alloc (Nat.le_refl _) (.cells cs t))
  obtain ⟨X, h1, h2⟩ := h.od
  refine ⟨h'.own, ⟨X, HC.keep h1 (Fr.of_below (X := fun _ => False) ((Below.refl _ _).alloc (Nat.le_refl _) _)) (fun _ _ h => h), fun j hj => ⟨(h2 j hj).1, (h2 j hj).2, ?_⟩⟩, fun j hj => ⟨h.low j hj, ?_⟩, h'.below, heap_alloc_last w _⟩
  · have := HC.lt h1 j hj
    omega
  · have := h.own.lt j hj
    omega
theorem MidB.blk {w0 w : World} {b q p : Nat} {ob : Obj} {v : Value} {s : Option (List Nat)} {W : List Nat} (h : MidB Od w0 b q p ob w v s W) : p < w.heap.size := (Array.getElem?_eq_some_iff.1 h.box).1
theorem MidB.later (HC : OutC Od) {w0 w w' : World} {b q p : Nat} {ob : Obj} {v : Value} {s : Option (List Nat)} {W : List Nat} (h : MidB Od w0 b q p ob w v s W) (k : Below w.heap.size w w') : MidB Od w0 b q p ob w' v s W := by
  obtain ⟨X, h1, h2⟩ := h.od
  exact ⟨h.own.fr (Fr.of_below (X := fun _ => False) k) (fun _ _ h => h), ⟨X, HC.keep h1 (Fr.of_below (X := fun _ => False) k) (fun _ _ h => h), h2⟩, h.low, h.below.trans (k.mono h.below.size), (k.block p h.blk).trans h.box⟩
/-- Something is put. -/
theorem MidB.put (HC : OutC Od) {w0 w : World} {b q q' p : Nat} {ob : Obj} {v : Value} {s s' : Option (List Nat)} {W : List Nat} (h : MidB Od w0 b q p ob w v s W) {f : FuncId} {args : Array Value}
    (hc : ∀ X, Od X w b s q → Calls Tryz.prog f args w (OutPost Od X w b s' q')) : Calls Tryz.prog f args w fun e w' => e = .returned (.tuple #[]) ∧ MidB Od w0 b q' p ob w' v s' W := by
  obtain ⟨X, h1, h2⟩ := h.od
  refine (hc X h1).mono ?_
  rintro e w' ⟨rfl, X', h3, h4, h5⟩
  refine ⟨rfl, h.own.fr h5 (fun j hj hX => (h2 j hX).2.1 hj), ⟨X', h3, fun j hj => ?_⟩, h.low, h.below.trans (h5.below h.below.size fun j hj hX => by have := (h2 j hX).1; omega), (h5.block p h.blk fun e => (h2 p e).2.2 rfl).trans h.box⟩
  rcases h4 j hj with h6 | h6
  · exact h2 j h6
  · have := h.below.size
    have hp := h.blk
    exact ⟨by omega, fun e => by have := h.own.lt j e; omega, by omega⟩
/-- Bytes are appended to the row. -/
theorem MidB.add (HC : OutC Od) {w0 w w' : World} {b q p : Nat} {ob : Obj} {v v' : Value} {s : Option (List Nat)} {W m : List Nat} (h : MidB Od w0 b q p ob w v s W) (h1 : OwnB w' v' (W ++ m)) (h2 : w.grownBy w' v.ownBlock) (h3 : v'.ownBlock = v.ownBlock ∨ v'.ownBlock = some w.heap.size) : MidB Od w0 b q p ob w' v' s (W ++ m) := by
  obtain ⟨X, k1, k2⟩ := h.od
  have hf : Fr (fun j => v.ownBlock = some j) w w' := Fr.of_grown h2 fun j e => e
  have hp := h.blk
  refine ⟨h1, ⟨X, HC.keep k1 hf fun j hj e => (k2 j hj).2.1 e, fun j hj => ⟨(k2 j hj).1, fun e => ?_, (k2 j hj).2.2⟩⟩, fun j hj => ?_, h.below.trans (hf.below h.below.size fun j hj e => by have := (h.low j e).1; omega), (hf.block p hp fun e => (h.low p e).2 rfl).trans h.box⟩
  · rcases h3 with h4 | h4
    · rw [h4] at e; exact (k2 j hj).2.1 e
    · rw [h4] at e
      have := HC.lt k1 j hj
      have := Option.some.inj e
      omega
  · rcases h3 with h4 | h4
    · exact h.low j (by rw [← h4]; exact hj)
    · rw [h4] at hj
      have := Option.some.inj hj
      have := h.below.size
      exact ⟨by omega, by omega⟩
theorem MidB.mono (HC : OutC Od) {w0 w : World} {b q q' p : Nat} {ob : Obj} {v : Value} {s : Option (List Nat)} {W : List Nat} (h : MidB Od w0 b q p ob w v s W) (hq : q ≤ q') : MidB Od w0 b q' p ob w v s W := by
  obtain ⟨X, h1, h2⟩ := h.od
  exact ⟨h.own, ⟨X, HC.mono h1 hq, h2⟩, h.low, h.below, h.box⟩
/-- Bytes appended, where the order is open. -/
theorem wp_addB {o : Oper} {a : Act} {K : Act → World → Prop} {Q : Exit → Act → World → Prop} (w : World) (s x : Operand)
    (ho : o.op = .call { callee := .builtin .append, args := #[s, x], argTypes := #[35, 35] })
    (v : Value) (l : List Nat) (hsv : a.eval s = v) (hown : OwnB w v l) (ga : Option Addr) (gc q : Nat) (m : List Nat) (hxv : a.eval x = .slice ga q gc) (hq : m.length = q) (hs : Sl w ga gc m) (hn : l.length + m.length ≤ 1000000)
    (h : ∀ v' w', Hid (OwnB w' v' (l ++ m)) → Hid (w.grownBy w' v.ownBlock) → Hid (v'.ownBlock = v.ownBlock ∨ v'.ownBlock = some w.heap.size) → K (a.put o.dst v') w') : o.wp Tryz.prog a w K Q := by
  subst hq
  obtain ⟨v', w', hr, h2, h3, h4⟩ := run_addB w o.type hown ga gc m hs hn
  unfold Oper.wp execOp
  simp only [ho, resolve, invoke, builtin, Sem.run_bind, Sem.run_pure, Result.andThen_ok, List.map_toArray, List.map_cons, List.map_nil, hsv, hxv, hr]
  exact h v' w' h2 h3 h4
end Go.Proofs.YtcopjbapglndgaaGreatDoor
end

section
namespace Go.Proofs.YtcopjbapglndgaaGreatDoor
open Go.ChangeShapes Go.WideShapes Go.ChangeAt Go.RowKit Go.Joins
set_option linter.unusedVariables false

/-- Behind w0 a row v of one's own that reads as l. -/
structure Acc (w0 w : World) (v : Value) (l : List Nat) : Prop where
  own : OwnB w v l
  low : ∀ j, v.ownBlock = some j → w0.heap.size ≤ j
  below : Below w0.heap.size w0 w
theorem Acc.later {w0 w w' : World} {v : Value} {l : List Nat} (h : Acc w0 w v l) (k : Below w.heap.size w w') : Acc w0 w' v l :=
  ⟨h.own.fr (Fr.of_below (X := fun _ => False) k) (fun _ _ h => h), h.low, h.below.trans (k.mono h.below.size)⟩
theorem Acc.add {w0 w w' : World} {v v' : Value} {l m : List Nat} (h : Acc w0 w v l) (h1 : OwnB w' v' (l ++ m)) (h2 : w.grownBy w' v.ownBlock) (h3 : v'.ownBlock = v.ownBlock ∨ v'.ownBlock = some w.heap.size) : Acc w0 w' v' (l ++ m) := by
  refine ⟨h1, fun j hj => ?_, h.below.grown h2 h.below.size fun k hk => h.low k hk⟩
  rcases h3 with h4 | h4
  · exact h.low j (by rw [← h4]; exact hj)
  · rw [h4] at hj
    have := Option.some.inj hj
    have := h.below.size
    omega
theorem Acc.base {w0 w1 w : World} {v : Value} {l : List Nat} (h : Acc w1 w v l) (k : Below w0.heap.size w0 w1) : Acc w0 w v l :=
  ⟨h.own, fun j hj => Nat.le_trans k.size (h.low j hj), k.trans (h.below.mono k.size)⟩
theorem Acc.nil {w0 w : World} (h : Below w0.heap.size w0 w) : Acc w0 w (.slice none 0 0) [] := ⟨OwnB.nil _, fun j hj => by simp [Value.ownBlock] at hj, h⟩
/-- A row that a call has made, whole. -/
theorem OwnB.of_row {w : World} {B n : Nat} {l : List Nat} (h : Row w B 5 n n (vOf l)) (hl : l.length = n) (hn : n ≤ maxLen) : OwnB w (.slice (some ⟨B, 0, none⟩) n n) l := by
  refine ⟨by simp, .inr ⟨B, n, rowArr n (vOf l), by rw [hl], Nat.zero_le _, h.whole, Nat.le_of_eq hl, hn, by rw [rowArr_size, Nat.mul_one], ?_⟩⟩
  rw [Nat.mul_one, hl]
  unfold rowArr
  rw [List.take_of_length_le (by simp)]
  apply List.ext_getElem?
  intro i
  by_cases hi : i < n
  · have hi2 : i < l.length := by omega
    simp [hi, hi2, vOf, List.getD]
  · have hi2 : l.length ≤ i := by omega
    simp [hi, hi2]
theorem Acc.of_new {w0 w w' : World} {l : List Nat} {n : Nat} (h : NewTo w w' l n) (hl : l.length = n) (hn : n ≤ 1000000) (k : Below w0.heap.size w0 w) : Acc w0 w' (.slice (some ⟨w.heap.size, 0, none⟩) n n) l := by
  refine ⟨OwnB.of_row (by have := h.row; rw [hl] at this; exact this) hl (by unfold maxLen; omega), fun j hj => ?_, k.trans (h.below.mono k.size)⟩
  have : w.heap.size = j := by simpa [Value.ownBlock] using hj
  have := k.size
  omega
/-- A row written out. -/
theorem row_of_cells (w : World) (l : List Nat) (cs : Array Value) (h : cs = rowArr l.length (vOf l)) : Row (w.alloc (.cells cs 5)) w.heap.size 5 l.length l.length (vOf l) := by
  subst h
  exact Row.of_whole (heap_alloc_last w _)

def u64N (z : Int) : Nat := (z % 18446744073709551616).toNat
def u8N (z : Int) : Nat := (z % 256).toNat
theorem u64N_lt (z : Int) : u64N z < 18446744073709551616 := by unfold u64N; omega
theorem u8N_lt (z : Int) : u8N z < 256 := by unfold u8N; omega
theorem u64_wrap (z : Int) : IntKind.u64.wrap z = (u64N z : Int) := by rw [IntKind.wrap_u64]; unfold u64N; omega
theorem u8_wrap (z : Int) : IntKind.u8.wrap z = (u8N z : Int) := by
  unfold u8N
  simp [IntKind.wrap, IntKind.signed, IntKind.bits]
  omega
/-- The body of a main packet; of a symbol's. -/
def mainN (s f n : Int) : List Nat := wideN (u64N s) 2 ++ [u8N f] ++ wideN (u64N n) 2
def symbolN (id : Nat) (d : List Nat) : List Nat := wideN id 4 ++ d

theorem NewTo.one {w w' : World} {l : List Nat} {n : Nat} (h : NewTo w w' l n) (hl : l.length = n) (hb : IsByte l) (hn : n ≤ 1000000) : Sl w' (some ⟨w.heap.size, 0, none⟩) n l := by
  subst hl
  exact h.sl hb hn

set_option maxRecDepth 100000 in
set_option maxHeartbeats 1000000 in
theorem refMain_any (s f n : Int) (w : World) (hs : i64R s) (hf : i64R f) (hn : i64R n) :
    Calls Tryz.prog 53 #[.int .i64 s, .int .i64 f, .int .i64 n] w fun e w' => ∃ v, e = .returned v ∧ Acc w w' v (mainN s f n) := by
  have HW1 := Lib.hid (wide_any (u64N s) 2 w (u64N_lt s) (by omega))
  have HW2 : Hid (∀ w, Calls Tryz.prog 36 #[.int .u64 (u64N n : Int), .int .i64 (2 : Nat)] w fun e w' => e = .returned (.slice (some ⟨w.heap.size, 0, none⟩) 2 2) ∧ NewTo w w' (wideN (u64N n) 2) 2) := fun w => wide_any (u64N n) 2 w (u64N_lt n) (by omega)
  have e1 := u64_wrap s
  have e2 := u64_wrap n
  have e3 := u8_wrap f
  have h8 := u8N_lt f
  obtain ⟨S, hS⟩ : ∃ S, S = u64N s := ⟨_, rfl⟩
  obtain ⟨M, hM⟩ : ∃ M, M = u64N n := ⟨_, rfl⟩
  obtain ⟨F, hF⟩ : ∃ F, F = u8N f := ⟨_, rfl⟩
  have HR : Hid (mainN s f n = wideN S 2 ++ [F] ++ wideN M 2) := by unfold mainN; rw [hS, hM, hF]; rfl
  rw [← hS] at HW1 e1
  rw [← hM] at HW2 e2
  rw [← hF] at e3 h8
  clear hS hM hF hs hf hn
  go_enter Tryz.func53, Tryz.ntmps53
  go_wp2_with fail
  refine HW1.out.mono ?_
  rintro e w1 ⟨rfl, hn1⟩
  have HA1 := Lib.hid (Acc.of_new hn1 (wideN_len _ _) (by omega) (Below.refl w.heap.size w))
  have HB1 : Hid (Below w1.heap.size w1 (w1.alloc (.cells #[.int .u8 (F : Int)] 5))) := (Below.refl _ _).alloc (Nat.le_refl _) _
  have HY1 : Hid (Sl (w1.alloc (.cells #[.int .u8 (F : Int)] 5)) (some ⟨w1.heap.size, 0, none⟩) 1 [F]) := Row.sl (row_of_cells w1 [F] _ rfl) rfl (by intro x hx; simp at hx; omega) (by unfold maxLen; simp)
  clear hn1 HW1
  go_wp2_with (at_builtin; refine wpList_addB _ rfl _ _ rfl (.slice (some ⟨w.heap.size, 0, none⟩) 2 2) (wideN S 2) rfl (HA1.out.later HB1.out).own (some ⟨w1.heap.size, 0, none⟩) 1 1 [F] rfl rfl HY1.out (by rw [wideN_len]; simp) ?_; intro v2 w2 o2 g2 e2')
  have HA2 := Lib.hid ((HA1.out.later HB1.out).add o2.out g2.out e2'.out)
  have HWD := Lib.hid (HW2.out w2)
  clear HA1 HB1 HY1 o2 g2 e2'
  go_wp2_with fail
  refine HWD.out.mono ?_
  rintro e w3 ⟨rfl, hn3⟩
  have HA3 := Lib.hid (HA2.out.later hn3.below)
  have HY3 := Lib.hid (hn3.one (wideN_len _ _) (wideN_byte _ _) (by omega))
  clear hn3 HWD HA2
  go_wp2_with (at_builtin; refine wpList_addB _ rfl _ _ rfl v2 (wideN S 2 ++ [F]) rfl HA3.out.own (some ⟨w2.heap.size, 0, none⟩) 2 2 (wideN M 2) rfl (wideN_len _ _) HY3.out (by rw [List.length_append, wideN_len, wideN_len]; simp) ?_; intro v4 w4 o4 g4 e4)
  have HA4 := Lib.hid (HA3.out.add o4.out g4.out e4.out)
  clear HA3 HY3 o4 g4 e4
  go_ret
  exact ⟨v4, rfl, by rw [HR.out]; exact HA4.out⟩
set_option maxRecDepth 100000 in
theorem refSymbol_any (id : Nat) (a : Option Addr) (c : Nat) (d : List Nat) (w : World) (hid : id < 4294967296) (hs : Sl w a c d) (hd : d.length ≤ 900000) :
    Calls Tryz.prog 17 #[.int .u32 (id : Int), .slice a d.length c] w fun e w' => ∃ v, e = .returned v ∧ Acc w w' v (symbolN id d) := by
  have HW1 := Lib.hid (wide_any id 4 w (by omega) (by omega))
  have HS := Lib.hid hs
  have hlm := hs.lt
  have hcm : c ≤ 9223372036854775807 := by have := hs.most; unfold maxLen at this; omega
  clear hs
  go_enter Tryz.func17, Tryz.ntmps17
  go_wp2_with fail
  refine HW1.out.mono ?_
  rintro e w1 ⟨rfl, hn1⟩
  have HA1 := Lib.hid (Acc.of_new hn1 (wideN_len _ _) (by omega) (Below.refl w.heap.size w))
  clear hn1 HW1
  go_wp2_with (at_builtin; refine wpList_addB _ rfl _ _ rfl (.slice (some ⟨w.heap.size, 0, none⟩) 4 4) (wideN id 4) rfl HA1.out.own a c d.length d rfl rfl (HS.out.below HA1.out.below) (by rw [wideN_len]; omega) ?_; intro v2 w2 o2 g2 e2)
  have HA2 := Lib.hid (HA1.out.add o2.out g2.out e2.out)
  clear HA1 o2 g2 e2
  go_ret
  exact ⟨v2, rfl, HA2.out⟩
end Go.Proofs.YtcopjbapglndgaaGreatDoor
end

section
namespace Go.Proofs.YtcopjbapglndgaaGreatDoor.Sha

def stp (x : Nat) : Nat := x / 2 ^^^ (if x % 2 = 1 then 3988292384 else 0)

theorem xor_swap (a b c d : Nat) : (a ^^^ b) ^^^ (c ^^^ d) = (a ^^^ c) ^^^ (b ^^^ d) := by ac_rfl

theorem stp_xor (x y : Nat) : stp (x ^^^ y) = stp x ^^^ stp y := by
  unfold stp
  rw [Nat.xor_div_two, xor_swap]
  congr 1
  have h := @Nat.xor_mod_two_eq_one x y
  by_cases hx : x % 2 = 1 <;> by_cases hy : y % 2 = 1 <;> simp [hx, hy, h, Nat.xor_self]

theorem stp_even (y : Nat) : stp (2 * y) = y := by
  unfold stp
  rw [if_neg (by omega)]
  simp

theorem stp_lt (x : Nat) (h : x < 4294967296) : stp x < 4294967296 := by
  unfold stp
  have : x / 2 ^^^ (if x % 2 = 1 then 3988292384 else 0) < 2 ^ 32 := Nat.xor_lt_two_pow (by omega) (by split <;> omega)
  simpa using this

def stps : Nat → Nat → Nat
  | 0, x => x
  | k + 1, x => stp (stps k x)

theorem stps_xor (k x y : Nat) : stps k (x ^^^ y) = stps k x ^^^ stps k y := by
  induction k with
  | zero => rfl
  | succ k ih => simp only [stps, ih, stp_xor]

theorem stps_lt (k x : Nat) (h : x < 4294967296) : stps k x < 4294967296 := by
  induction k with
  | zero => exact h
  | succ k ih => exact stp_lt _ ih

theorem stps_add (k m x : Nat) : stps (k + m) x = stps k (stps m x) := by
  induction k with
  | zero => simp [stps]
  | succ k ih => rw [Nat.add_right_comm]; simp only [stps, ih]

def four (k : Nat) : Nat := [0, 498536548, 997073096, 651767980, 1994146192, 1802195444, 1303535960, 1342533948, 3988292384, 4027552580, 3604390888, 3412177804, 2607071920, 2262029012, 2685067896, 3183342108].getD k 0

theorem four_eq : ∀ k, k < 16 → stps 4 k = four k := by decide

theorem four_lt (k : Nat) (h : k < 16) : four k < 4294967296 := by
  rw [← four_eq k h]; exact stps_lt _ _ (by omega)

theorem split16 (x : Nat) : x = 2 * (2 * (2 * (2 * (x / 16)))) ^^^ x % 16 := by
  have h := Nat.two_pow_add_eq_or_of_lt (i := 4) (b := x % 16) (by omega) (x / 16)
  apply Nat.eq_of_testBit_eq
  intro i
  have e : 2 * (2 * (2 * (2 * (x / 16)))) = 2 ^ 4 * (x / 16) := by omega
  have hx : x = 2 ^ 4 * (x / 16) ||| x % 16 := by rw [← h]; omega
  have hm : x % 16 = x % 2 ^ 4 := rfl
  rw [e, Nat.testBit_xor, Nat.testBit_two_pow_mul, hm, Nat.testBit_mod_two_pow]
  conv => lhs; rw [hx, Nat.testBit_or, Nat.testBit_two_pow_mul, hm, Nat.testBit_mod_two_pow]
  by_cases h4 : i < 4
  · simp [h4, show ¬ 4 ≤ i by omega]
  · simp [h4]

theorem half_byte (x : Nat) : x / 16 ^^^ four (x % 16) = stps 4 x := by
  conv => rhs; rw [split16 x, stps_xor, four_eq _ (Nat.mod_lt _ (by omega))]
  simp [stps, stp_even]

/-- One more byte, into a CRC that isn't turned at last yet. -/
def feedN (s c : Nat) : Nat := stps 8 (s ^^^ c)

theorem byte_lt (s c : Nat) (hs : s < 4294967296) (hc : c < 256) : s ^^^ c < 4294967296 := by
  have : s ^^^ c < 2 ^ 32 := Nat.xor_lt_two_pow (by omega) (by omega)
  simpa using this

theorem feedN_lt (s c : Nat) (hs : s < 4294967296) (hc : c < 256) : feedN s c < 4294967296 := stps_lt _ _ (byte_lt s c hs hc)

theorem feed_eq (x : Nat) : (x / 16 ^^^ four (x % 16)) / 16 ^^^ four ((x / 16 ^^^ four (x % 16)) % 16) = stps 8 x := by
  rw [half_byte, half_byte, ← stps_add]

/-- A list of bytes, taken in from a state on. -/
def feedAll (s : Nat) (l : List Nat) : Nat := l.foldl feedN s

theorem feedAll_snoc (s : Nat) (l : List Nat) (c : Nat) : feedAll s (l ++ [c]) = feedN (feedAll s l) c := by simp [feedAll]

def IsByte (l : List Nat) : Prop := ∀ c ∈ l, c < 256

theorem feedAll_lt (l : List Nat) : ∀ (s : Nat), s < 4294967296 → IsByte l → feedAll s l < 4294967296 := by
  induction l with
  | nil => intro s hs _; exact hs
  | cons c l ih => intro s hs hl; exact ih _ (feedN_lt s c hs (hl c (by simp))) fun x hx => hl x (by simp [hx])

def crcN (l : List Nat) : Nat := feedAll 4294967295 l ^^^ 4294967295

theorem crc_known : crcN [49, 50, 51, 52, 53, 54, 55, 56, 57] = 3421780262 := by decide +kernel

theorem turn_lt (x : Nat) (h : x < 4294967296) : x ^^^ 4294967295 < 4294967296 := by
  have : x ^^^ 4294967295 < 2 ^ 32 := Nat.xor_lt_two_pow (by omega) (by omega)
  simpa using this

/-- The document's way: bit by bit, the byte's bits taken in one by one. -/
def bitStep (r b k : Nat) : Nat := r / 2 ^^^ (if (r % 2 ^^^ b / 2 ^ k % 2) = 1 then 3988292384 else 0)

theorem bit_step (r b k : Nat) : stp (r ^^^ b / 2 ^ k) = bitStep r b k ^^^ b / 2 ^ (k + 1) := by
  unfold stp bitStep
  have e : b / 2 ^ (k + 1) = b / 2 ^ k / 2 := by rw [Nat.pow_succ, Nat.div_div_eq_div_mul]
  rw [Nat.xor_div_two, e]
  have h := @Nat.xor_mod_two_eq_one r (b / 2 ^ k)
  have h2 : (r % 2 ^^^ b / 2 ^ k % 2) = (r ^^^ b / 2 ^ k) % 2 := by
    have := @Nat.xor_mod_two_pow r (b / 2 ^ k) 1
    simpa using this.symm
  rw [h2]
  ac_rfl

def bitSteps (r b : Nat) : Nat → Nat
  | 0 => r
  | k + 1 => bitStep (bitSteps r b k) b k

theorem bit_steps (r b k : Nat) : stps k (r ^^^ b) = bitSteps r b k ^^^ b / 2 ^ k := by
  induction k with
  | zero => simp [stps, bitSteps]
  | succ k ih => simp only [stps, bitSteps, ih, bit_step]

theorem bit_steps8 (r b : Nat) (h : b < 256) : bitSteps r b 8 = feedN r b := by
  have := bit_steps r b 8
  rw [show b / 2 ^ 8 = 0 by omega, Nat.xor_zero] at this
  exact this.symm

theorem bitStep_lt (r b k : Nat) (h : r < 4294967296) : bitStep r b k < 4294967296 := by
  unfold bitStep
  have : r / 2 ^^^ (if (r % 2 ^^^ b / 2 ^ k % 2) = 1 then 3988292384 else 0) < 2 ^ 32 := Nat.xor_lt_two_pow (by omega) (by split <;> omega)
  simpa using this

theorem bitSteps_lt (r b k : Nat) (h : r < 4294967296) : bitSteps r b k < 4294967296 := by
  induction k with
  | zero => exact h
  | succ k ih => exact bitStep_lt _ _ _ ih

/-! Windows that roll. -/

def zeros : Nat → Nat → Nat
  | 0, x => x
  | n + 1, x => feedN (zeros n x) 0

theorem zeros_eq (n x : Nat) : zeros n x = stps (8 * n) x := by
  induction n with
  | zero => rfl
  | succ n ih => rw [zeros, feedN, Nat.xor_zero, ih, ← stps_add]; congr 1; omega

def leftN (c n : Nat) : Nat := zeros n (feedN 4294967295 c ^^^ 4294967295)

theorem feedN_xor (s d c : Nat) : feedN (s ^^^ d) c = feedN s c ^^^ stps 8 d := by
  unfold feedN
  rw [← stps_xor]
  congr 1
  ac_rfl

theorem feedAll_xor (l : List Nat) : ∀ (s d : Nat), feedAll (s ^^^ d) l = feedAll s l ^^^ stps (8 * l.length) d := by
  induction l with
  | nil => intro s d; rfl
  | cons c l ih =>
    intro s d
    show feedAll (feedN (s ^^^ d) c) l = feedAll (feedN s c) l ^^^ _
    rw [feedN_xor, ih, ← stps_add]
    congr 2

theorem xor_back (a b : Nat) : a ^^^ (b ^^^ a) = b := by
  rw [Nat.xor_comm b a, ← Nat.xor_assoc, Nat.xor_self, Nat.zero_xor]

theorem xor_back' (a b : Nat) : a ^^^ b ^^^ b = a := by
  rw [Nat.xor_assoc, Nat.xor_self, Nat.xor_zero]

theorem roll (o i : Nat) (l : List Nat) : feedN (crcN (o :: l) ^^^ 4294967295) i ^^^ 4294967295 ^^^ leftN o (l.length + 1) = crcN (l ++ [i]) := by
  unfold crcN leftN
  rw [xor_back', ← feedAll_snoc, zeros_eq]
  have h : feedAll 4294967295 (o :: l ++ [i]) = feedAll (4294967295 ^^^ (feedN 4294967295 o ^^^ 4294967295)) (l ++ [i]) := by rw [xor_back]; rfl
  rw [h, feedAll_xor]
  have e : (l ++ [i]).length = l.length + 1 := by simp
  rw [e]
  generalize stps _ _ = A
  generalize feedAll _ _ = B
  rw [Nat.xor_assoc B, Nat.xor_comm A, Nat.xor_assoc, Nat.xor_assoc, Nat.xor_self, Nat.xor_zero]

theorem leftN_eq (c n : Nat) : leftN c n = leftN 0 n ^^^ stps (8 * n + 8) c := by
  unfold leftN
  rw [zeros_eq, zeros_eq, stps_add]
  have h : feedN 4294967295 c = feedN 4294967295 0 ^^^ stps 8 c := by
    unfold feedN
    rw [Nat.xor_zero, stps_xor]
  rw [h, stps_xor, stps_xor, stps_xor]
  ac_rfl

theorem leftN_sum (a b n : Nat) : leftN a n ^^^ leftN b n ^^^ leftN 0 n = leftN (a ^^^ b) n := by
  rw [leftN_eq a, leftN_eq b, leftN_eq (a ^^^ b), stps_xor]
  generalize leftN 0 n = K
  generalize stps (8 * n + 8) a = A
  generalize stps (8 * n + 8) b = B
  rw [show K ^^^ A ^^^ (K ^^^ B) ^^^ K = (K ^^^ K) ^^^ (K ^^^ (A ^^^ B)) by ac_rfl, Nat.xor_self, Nat.zero_xor]

theorem zeros_lt (n x : Nat) (h : x < 4294967296) : zeros n x < 4294967296 := by
  rw [zeros_eq]; exact stps_lt _ _ h

theorem leftN_lt (c n : Nat) (h : c < 256) : leftN c n < 4294967296 := zeros_lt _ _ (turn_lt _ (feedN_lt _ _ (by omega) h))

end Go.Proofs.YtcopjbapglndgaaGreatDoor.Sha
end

section
namespace Go.Proofs.YtcopjbapglndgaaGreatDoor.Sha
open Go

def rotr (x n : Nat) : Nat := x % 2 ^ n * 2 ^ (32 - n) + x / 2 ^ n

theorem pow_split (n : Nat) (hn : n ≤ 32) : 2 ^ n * 2 ^ (32 - n) = 4294967296 := by
  rw [← Nat.pow_add, show n + (32 - n) = 32 by omega]

theorem div_lt32 (x n : Nat) (hx : x < 4294967296) (hn : n ≤ 32) : x / 2 ^ n < 2 ^ (32 - n) :=
  Nat.div_lt_of_lt_mul (by rw [pow_split n hn]; exact hx)

theorem rotr_lt (x n : Nat) (hx : x < 4294967296) (hn : n ≤ 32) : rotr x n < 4294967296 := by
  unfold rotr
  have h1 := div_lt32 x n hx hn
  have h2 : x % 2 ^ n + 1 ≤ 2 ^ n := Nat.mod_lt _ (Nat.two_pow_pos n)
  have h3 := Nat.mul_le_mul_right (2 ^ (32 - n)) h2
  rw [pow_split n hn, Nat.add_mul, Nat.one_mul] at h3
  omega

theorem rotr_left (x n : Nat) (hx : x < 4294967296) (hn : n ≤ 32) : (x * 2 ^ (32 - n) % 4294967296) ||| (x / 2 ^ n) = rotr x n := by
  have h1 := div_lt32 x n hx hn
  have e : x * 2 ^ (32 - n) % 4294967296 = x % 2 ^ n * 2 ^ (32 - n) := by
    rw [← pow_split n hn, Nat.mul_mod_mul_right]
  rw [e, nat_join (32 - n) _ _ (by simp) h1]
  rfl

theorem rotr_wide (x n : Nat) (hx : x < 4294967296) (hn : n ≤ 32) : (x / 2 ^ n ||| x * 2 ^ (32 - n)) % 4294967296 = rotr x n := by
  have h1 := div_lt32 x n hx hn
  rw [Nat.or_comm, nat_join (32 - n) _ _ (by simp) h1]
  have h2 := Nat.div_add_mod x (2 ^ n)
  have h3 : x * 2 ^ (32 - n) = x / 2 ^ n * 4294967296 + x % 2 ^ n * 2 ^ (32 - n) := by
    conv => lhs; rw [← h2]
    rw [Nat.add_mul, Nat.mul_comm (2 ^ n), Nat.mul_assoc, pow_split n hn]
  have h4 := rotr_lt x n hx hn
  unfold rotr at h4 ⊢
  rw [h3]
  omega

def bigA (x : Nat) : Nat := rotr x 2 ^^^ rotr x 13 ^^^ rotr x 22
def bigE (x : Nat) : Nat := rotr x 6 ^^^ rotr x 11 ^^^ rotr x 25
def smallA (x : Nat) : Nat := rotr x 7 ^^^ rotr x 18 ^^^ x / 8
def smallE (x : Nat) : Nat := rotr x 17 ^^^ rotr x 19 ^^^ x / 1024

theorem xor_bd {a b : Nat} (ha : a < 4294967296) (hb : b < 4294967296) : a ^^^ b < 4294967296 := by
  have : a ^^^ b < 2 ^ 32 := Nat.xor_lt_two_pow (by omega) (by omega)
  simpa using this
theorem and_bd {a : Nat} (b : Nat) (ha : a < 4294967296) : a &&& b < 4294967296 := Nat.lt_of_le_of_lt Nat.and_le_left ha
theorem or_bd {a b : Nat} (ha : a < 4294967296) (hb : b < 4294967296) : a ||| b < 4294967296 := by
  have : a ||| b < 2 ^ 32 := Nat.or_lt_two_pow (by omega) (by omega)
  simpa using this

theorem bigA_lt {x : Nat} (h : x < 4294967296) : bigA x < 4294967296 := xor_bd (xor_bd (rotr_lt x 2 h (by omega)) (rotr_lt x 13 h (by omega))) (rotr_lt x 22 h (by omega))
theorem bigE_lt {x : Nat} (h : x < 4294967296) : bigE x < 4294967296 := xor_bd (xor_bd (rotr_lt x 6 h (by omega)) (rotr_lt x 11 h (by omega))) (rotr_lt x 25 h (by omega))
theorem smallA_lt {x : Nat} (h : x < 4294967296) : smallA x < 4294967296 := xor_bd (xor_bd (rotr_lt x 7 h (by omega)) (rotr_lt x 18 h (by omega))) (by omega)
theorem smallE_lt {x : Nat} (h : x < 4294967296) : smallE x < 4294967296 := xor_bd (xor_bd (rotr_lt x 17 h (by omega)) (rotr_lt x 19 h (by omega))) (by omega)

def chN (t u v : Nat) : Nat := t &&& u ^^^ (4294967295 - t) &&& v
def majN (p q r : Nat) : Nat := p &&& q ^^^ p &&& r ^^^ q &&& r

theorem not_eq (t : Nat) (h : t < 4294967296) : 4294967295 ^^^ t = 4294967295 - t := by
  apply Nat.eq_of_testBit_eq
  intro i
  have e : 4294967295 - t = 2 ^ 32 - (t + 1) := by omega
  rw [e, Nat.testBit_two_pow_sub_succ (by omega), Nat.testBit_xor, show (4294967295 : Nat) = 2 ^ 32 - 1 from rfl, Nat.testBit_two_pow_sub_one]
  by_cases hi : i < 32
  · simp [hi]
  · have : t.testBit i = false := Nat.testBit_lt_two_pow (Nat.lt_of_lt_of_le h (by have := Nat.pow_le_pow_right (show 0 < 2 by omega) (show 32 ≤ i by omega); simpa using this))
    simp [hi, this]

theorem ch_or (t u v : Nat) (h : t < 4294967296) : (t &&& u ||| (4294967295 ^^^ t) &&& v) = chN t u v := by
  unfold chN
  rw [← not_eq t h]
  apply Nat.eq_of_testBit_eq
  intro i
  rw [Nat.testBit_or, Nat.testBit_xor, Nat.testBit_and, Nat.testBit_and, Nat.testBit_xor, show (4294967295 : Nat) = 2 ^ 32 - 1 from rfl, Nat.testBit_two_pow_sub_one]
  by_cases hi : i < 32
  · simp only [hi, decide_true]
    cases t.testBit i <;> cases u.testBit i <;> cases v.testBit i <;> rfl
  · have : t.testBit i = false := Nat.testBit_lt_two_pow (Nat.lt_of_lt_of_le h (by have := Nat.pow_le_pow_right (show 0 < 2 by omega) (show 32 ≤ i by omega); simpa using this))
    simp [hi, this]

theorem maj_or (p q r : Nat) : (p &&& q ||| p &&& r ||| q &&& r) = majN p q r := by
  unfold majN
  apply Nat.eq_of_testBit_eq
  intro i
  simp only [Nat.testBit_or, Nat.testBit_xor, Nat.testBit_and]
  cases p.testBit i <;> cases q.testBit i <;> cases r.testBit i <;> rfl

theorem chN_lt {t u v : Nat} (ht : t < 4294967296) (hv : v < 4294967296) : chN t u v < 4294967296 := xor_bd (and_bd _ ht) (by rw [Nat.and_comm]; exact and_bd _ hv)
theorem majN_lt {p q r : Nat} (hp : p < 4294967296) (hq : q < 4294967296) : majN p q r < 4294967296 := xor_bd (xor_bd (and_bd _ hp) (and_bd _ hp)) (and_bd _ hq)

/-- The word of four bytes, the greatest first. -/
def be32 (b : Nat → Nat) (i : Nat) : Nat := ((b (4 * i) * 256 + b (4 * i + 1)) * 256 + b (4 * i + 2)) * 256 + b (4 * i + 3)

/-- The words of a block of bytes. -/
def wd (b : Nat → Nat) (i : Nat) : Nat :=
  if h : i < 16 then be32 b i else (wd b (i - 16) + smallA (wd b (i - 15)) + wd b (i - 7) + smallE (wd b (i - 2))) % 4294967296
termination_by i

def BytesF (b : Nat → Nat) : Prop := ∀ i, b i < 256

theorem be32_lt {b : Nat → Nat} (h : BytesF b) (i : Nat) : be32 b i < 4294967296 := by
  unfold be32
  have h0 := h (4 * i); have h1 := h (4 * i + 1); have h2 := h (4 * i + 2); have h3 := h (4 * i + 3)
  omega

theorem wd_first (b : Nat → Nat) (i : Nat) (h : i < 16) : wd b i = be32 b i := by rw [wd, dif_pos h]
theorem wd_next (b : Nat → Nat) (i : Nat) (h : 16 ≤ i) : wd b i = (wd b (i - 16) + smallA (wd b (i - 15)) + wd b (i - 7) + smallE (wd b (i - 2))) % 4294967296 := by
  conv => lhs; rw [wd, dif_neg (by omega)]
theorem wd_lt {b : Nat → Nat} (h : BytesF b) (i : Nat) : wd b i < 4294967296 := by
  rw [wd]
  split
  · exact be32_lt h i
  · exact Nat.mod_lt _ (by omega)

def kL : List Nat := [1116352408, 1899447441, 3049323471, 3921009573, 961987163, 1508970993, 2453635748, 2870763221, 3624381080, 310598401, 607225278, 1426881987, 1925078388, 2162078206, 2614888103, 3248222580, 3835390401, 4022224774, 264347078, 604807628, 770255983, 1249150122, 1555081692, 1996064986, 2554220882, 2821834349, 2952996808, 3210313671, 3336571891, 3584528711, 113926993, 338241895, 666307205, 773529912, 1294757372, 1396182291, 1695183700, 1986661051, 2177026350, 2456956037, 2730485921, 2820302411, 3259730800, 3345764771, 3516065817, 3600352804, 4094571909, 275423344, 430227734, 506948616, 659060556, 883997877, 958139571, 1322822218, 1537002063, 1747873779, 1955562222, 2024104815, 2227730452, 2361852424, 2428436474, 2756734187, 3204031479, 3329325298]
def kN (i : Nat) : Nat := kL.getD i 0

theorem kN_lt : ∀ i, i < 64 → kN i < 4294967296 := by decide

/-- The state: eight words. -/
structure S8 where
  p : Nat
  q : Nat
  r : Nat
  s : Nat
  t : Nat
  u : Nat
  v : Nat
  w : Nat

structure S8.Ok (x : S8) : Prop where
  p : x.p < 4294967296
  q : x.q < 4294967296
  r : x.r < 4294967296
  s : x.s < 4294967296
  t : x.t < 4294967296
  u : x.u < 4294967296
  v : x.v < 4294967296
  w : x.w < 4294967296

def one8 (x : S8) (k c : Nat) : Nat := x.w + bigE x.t + chN x.t x.u x.v + k + c
def two8 (x : S8) : Nat := bigA x.p + majN x.p x.q x.r

def rnd (x : S8) (k c : Nat) : S8 := ⟨(one8 x k c + two8 x) % 4294967296, x.p, x.q, x.r, (x.s + one8 x k c) % 4294967296, x.t, x.u, x.v⟩

theorem rnd_ok {x : S8} (h : x.Ok) (k c : Nat) : (rnd x k c).Ok := ⟨Nat.mod_lt _ (by omega), h.p, h.q, h.r, Nat.mod_lt _ (by omega), h.t, h.u, h.v⟩

def rnds (x : S8) (b : Nat → Nat) : Nat → S8
  | 0 => x
  | n + 1 => rnd (rnds x b n) (kN n) (wd b n)

theorem rnds_ok {x : S8} (h : x.Ok) (b : Nat → Nat) (n : Nat) : (rnds x b n).Ok := by
  induction n with
  | zero => exact h
  | succ n ih => exact rnd_ok ih _ _

def add8 (x y : S8) : S8 := ⟨(x.p + y.p) % 4294967296, (x.q + y.q) % 4294967296, (x.r + y.r) % 4294967296, (x.s + y.s) % 4294967296, (x.t + y.t) % 4294967296, (x.u + y.u) % 4294967296, (x.v + y.v) % 4294967296, (x.w + y.w) % 4294967296⟩

theorem add8_ok (x y : S8) : (add8 x y).Ok := ⟨Nat.mod_lt _ (by omega), Nat.mod_lt _ (by omega), Nat.mod_lt _ (by omega), Nat.mod_lt _ (by omega), Nat.mod_lt _ (by omega), Nat.mod_lt _ (by omega), Nat.mod_lt _ (by omega), Nat.mod_lt _ (by omega)⟩

def mixN (x : S8) (b : Nat → Nat) : S8 := add8 x (rnds x b 64)

def start8 : S8 := ⟨1779033703, 3144134277, 1013904242, 2773480762, 1359893119, 2600822924, 528734635, 1541459225⟩
theorem start_ok : start8.Ok := ⟨by decide, by decide, by decide, by decide, by decide, by decide, by decide, by decide⟩

/-- The state behind k blocks of a message. -/
def comp (l : List Nat) : Nat → S8
  | 0 => start8
  | k + 1 => mixN (comp l k) (fun j => l.getD (64 * k + j) 0)

theorem comp_ok (l : List Nat) (k : Nat) : (comp l k).Ok := by
  cases k with
  | zero => exact start_ok
  | succ k => exact add8_ok _ _

def S8.get (x : S8) (i : Nat) : Nat := [x.p, x.q, x.r, x.s, x.t, x.u, x.v, x.w].getD i 0

/-- The bytes of a state. -/
def spellN (x : S8) : List Nat := (List.range 32).map fun i => x.get (i / 4) / 2 ^ (24 - 8 * (i % 4)) % 256

/-- A number's eight bytes, the greatest first. -/
def be64 (n : Nat) : List Nat := (List.range 8).map fun i => n / 2 ^ (8 * (7 - i)) % 256

/-- How many noughts a message is filled with. -/
def gap (n : Nat) : Nat := (119 - n % 64) % 64

/-- The padded message. -/
def padN (l : List Nat) : List Nat := l ++ 128 :: (List.replicate (gap l.length) 0 ++ be64 (l.length * 8))

def digestN (l : List Nat) : List Nat := spellN (comp (padN l) ((padN l).length / 64))

theorem padN_length (l : List Nat) : (padN l).length = l.length + 9 + gap l.length := by
  simp [padN, be64]; omega

theorem padN_mod (l : List Nat) : (padN l).length % 64 = 0 := by
  rw [padN_length]; unfold gap; omega

theorem padN_byte {l : List Nat} (h : IsByte l) : IsByte (padN l) := by
  intro c hc
  simp only [padN, be64, List.mem_append, List.mem_cons, List.mem_replicate, List.mem_map] at hc
  rcases hc with h1 | h1 | ⟨_, h1⟩ | ⟨i, _, h1⟩
  · exact h c h1
  · omega
  · omega
  · rw [← h1]; exact Nat.mod_lt _ (by omega)

theorem getD_byte {l : List Nat} (h : IsByte l) (k : Nat) : BytesF (fun j => l.getD (k + j) 0) := by
  intro j
  show l.getD (k + j) 0 < 256
  by_cases hj : k + j < l.length
  · simp only [List.getD, List.getElem?_eq_getElem hj, Option.getD_some]; exact h _ (List.getElem_mem hj)
  · simp only [List.getD, List.getElem?_eq_none (by omega : l.length ≤ k + j), Option.getD_none]; omega

end Go.Proofs.YtcopjbapglndgaaGreatDoor.Sha
end

section
namespace Go.Proofs.YtcopjbapglndgaaGreatDoor.Sha
open Go.ChangeShapes Go.WideShapes Go.ChangeAt Go.RowKit
set_option linter.unusedVariables false

theorem xor32 (a b : Nat) (ha : a < 4294967296) (hb : b < 4294967296) : bits .xor .u32 (a : Int) (b : Int) = ((a ^^^ b : Nat) : Int) := u32_xor_nat a b ha hb

theorem mask15 (a : Nat) (ha : a < 4294967296) : bits .and .u32 (a : Int) 15 = ((a % 16 : Nat) : Int) := by
  have := u32_and_nat a 15 ha (by omega)
  rw [nat_mask4] at this
  exact this

theorem turn32 (a : Nat) (ha : a < 4294967296) : bits .xor .u32 (a : Int) 4294967295 = ((a ^^^ 4294967295 : Nat) : Int) := u32_xor_nat a 4294967295 ha (by omega)

theorem xor_lt32 {a b : Nat} (ha : a < 4294967296) (hb : b < 4294967296) : a ^^^ b < 4294967296 := by
  have : a ^^^ b < 2 ^ 32 := Nat.xor_lt_two_pow (by omega) (by omega)
  simpa using this

def BytesIn (w : World) (b off : Nat) (l : List Nat) : Prop := ∀ i (h : i < l.length), w.cell? ⟨b, off + i, none⟩ = some (.int .u8 ((l[i] : Nat) : Int))

theorem isByte_take {l : List Nat} (h : IsByte l) (k : Nat) : IsByte (l.take k) := fun c hc => h c (List.mem_of_mem_take hc)

theorem ret_u32 {a b : Nat} (h : a = b) : Ending.returned (.int .u32 (a : Int)) = .returned (.int .u32 (b : Int)) := by rw [h]

def BytesAt (w : World) (a : Option Addr) (l : List Nat) : Prop := l = [] ∨ ∃ b off, a = some ⟨b, off, none⟩ ∧ BytesIn w b off l

theorem BytesIn.below {w w' : World} {B b off : Nat} {l : List Nat} (h : BytesIn w b off l) (hB : w.heap.size ≤ B) (hb : Below B w w') : BytesIn w' b off l := fun i hi => by
  rw [hb.cell (p := ⟨b, off + i, none⟩) (Nat.lt_of_lt_of_le (World.block_lt_of_cell? w _ (h i hi)) hB)]; exact h i hi

theorem BytesAt.below {w w' : World} {B : Nat} {a : Option Addr} {l : List Nat} (h : BytesAt w a l) (hB : w.heap.size ≤ B) (hb : Below B w w') : BytesAt w' a l := by
  rcases h with h | ⟨b, off, e, h⟩
  · exact .inl h
  · exact .inr ⟨b, off, e, h.below hB hb⟩

theorem cell_new (w : World) (C : Array Value) (e : TypeId) (f : Nat × Nat) (k : Nat) : (w.alloc (.cells C e f)).cell? ⟨w.heap.size, k, none⟩ = C[k]? := by
  have : (w.alloc (.cells C e f)).heap[w.heap.size]? = some (.cells C e f) := by
    show (w.heap.push (.cells C e f))[w.heap.size]? = _
    simp
  simp only [World.cell?, this]
  rfl

theorem bytesIn_new (w : World) (l : List Nat) (C : Array Value) (e : TypeId) (f : Nat × Nat) (h : C = (l.map fun c : Nat => Value.int .u8 (c : Int)).toArray) : BytesIn (w.alloc (.cells C e f)) w.heap.size 0 l := fun i hi => by
  rw [Nat.zero_add, cell_new, h]; simp [hi]
end Go.Proofs.YtcopjbapglndgaaGreatDoor.Sha
end

section
namespace Go.Proofs.YtcopjbapglndgaaGreatDoor.Sha
open Go.RowKit Go.Joins
set_option linter.unusedVariables false

/-- Block B is a row of n cells; the first k are as g says. -/
def Row (w : World) (B : Nat) (ty : TypeId) (n k : Nat) (g : Nat → Value) : Prop :=
  ∃ cs, w.heap[B]? = some (.cells cs ty (0, 0)) ∧ cs.size = n ∧ ∀ j, j < k → cs[j]? = some (g j)

theorem Row.cell {w : World} {B : Nat} {ty : TypeId} {n k : Nat} {g : Nat → Value} (h : Row w B ty n k g) (j : Nat) (hj : j < k) : w.cell? ⟨B, j, none⟩ = some (g j) := by
  obtain ⟨cs, h1, _, h3⟩ := h
  rw [cell_of_block h1]; exact h3 j hj

theorem Row.has {w : World} {B : Nat} {ty : TypeId} {n k : Nat} {g : Nat → Value} (h : Row w B ty n k g) (j : Nat) (hj : j < n) : ∃ v, w.cell? ⟨B, j, none⟩ = some v := by
  obtain ⟨cs, h1, h2, _⟩ := h
  exact ⟨cs[j], by rw [cell_of_block h1]; simp [h2, hj]⟩

theorem Row.loose {w : World} {B : Nat} {ty : TypeId} {n k : Nat} {g : Nat → Value} (h : Row w B ty n k g) (j : Nat) : w.frozen? ⟨B, j, none⟩ = false := by
  obtain ⟨cs, h1, _, _⟩ := h
  exact unfrozen_of_block h1 j

theorem Row.lt {w : World} {B : Nat} {ty : TypeId} {n k : Nat} {g : Nat → Value} (h : Row w B ty n k g) : B < w.heap.size := by
  obtain ⟨cs, h1, _, _⟩ := h
  exact (Array.getElem?_eq_some_iff.1 h1).1

theorem Row.set {w : World} {B : Nat} {ty : TypeId} {n k : Nat} {g : Nat → Value} (h : Row w B ty n k g) (hk : k < n) {v : Value} (hv : v = g k) : Row (w.setCell ⟨B, k, none⟩ v) B ty n (k + 1) g := by
  obtain ⟨cs, h1, h2, h3⟩ := h
  refine ⟨cs.setIfInBounds k v, block_setCell h1 v, by simp [h2], fun j hj => ?_⟩
  by_cases e : j = k
  · subst e; simp [h2, hk, hv]
  · rw [Array.getElem?_setIfInBounds_ne (by omega)]; exact h3 j (by omega)

/-- A cell of a row is written. -/
theorem Row.upd {w : World} {B : Nat} {ty : TypeId} {n m : Nat} {g : Nat → Value} (h : Row w B ty n m g) (k : Nat) (hk : k < n) (v : Value) : Row (w.setCell ⟨B, k, none⟩ v) B ty n m (fun j => if j = k then v else g j) := by
  obtain ⟨cs, h1, h2, h3⟩ := h
  refine ⟨cs.setIfInBounds k v, Joins.block_setCell h1 v, by simp [h2], fun j hj => ?_⟩
  by_cases e : j = k
  · subst e; simp [h2, hk]
  · rw [Array.getElem?_setIfInBounds_ne (by omega)]; simp only [e, if_false]; exact h3 j hj

/-- Another block is written. -/
theorem Row.other {w : World} {B C : Nat} {ty : TypeId} {n k i : Nat} {g : Nat → Value} {v : Value} (h : Row w B ty n k g) (hne : B ≠ C) : Row (w.setCell ⟨C, i, none⟩ v) B ty n k g := by
  obtain ⟨cs, h1, h2, h3⟩ := h
  exact ⟨cs, by rw [Below.heap_setCell _ _ _ _ hne]; exact h1, h2, h3⟩

theorem Row.below {w w' : World} {B C : Nat} {ty : TypeId} {n k : Nat} {g : Nat → Value} (h : Row w B ty n k g) (hb : Below C w w') (hC : B < C) : Row w' B ty n k g := by
  obtain ⟨cs, h1, h2, h3⟩ := h
  exact ⟨cs, by rw [hb.block _ hC]; exact h1, h2, h3⟩

theorem Row.drew {w : World} {B : Nat} {ty : TypeId} {n k : Nat} {g : Nat → Value} (h : Row w B ty n k g) (q : Nat) : Row (w.drewN q) B ty n k g := h

theorem Row.mono {w : World} {B : Nat} {ty : TypeId} {n k m : Nat} {g f : Nat → Value} (h : Row w B ty n k g) (hm : m ≤ k) (hf : ∀ j, j < m → g j = f j) : Row w B ty n m f := by
  obtain ⟨cs, h1, h2, h3⟩ := h
  exact ⟨cs, h1, h2, fun j hj => by rw [h3 j (by omega), hf j hj]⟩

/-- What a whole row holds. -/
def rowArr (n : Nat) (g : Nat → Value) : Array Value := ((List.range n).map g).toArray

theorem rowArr_size (n : Nat) (g : Nat → Value) : (rowArr n g).size = n := by simp [rowArr]

theorem Row.whole {w : World} {B : Nat} {ty : TypeId} {n : Nat} {g : Nat → Value} (h : Row w B ty n n g) : w.heap[B]? = some (.cells (rowArr n g) ty (0, 0)) := by
  obtain ⟨cs, h1, h2, h3⟩ := h
  have : cs = rowArr n g := by
    apply Array.ext_getElem?
    intro i
    by_cases hi : i < n
    · rw [h3 i hi]; simp [rowArr, hi]
    · simp [rowArr, h2, hi]
  rw [← this]; exact h1

theorem Row.of_whole {w : World} {B : Nat} {ty : TypeId} {n : Nat} {g : Nat → Value} (h : w.heap[B]? = some (.cells (rowArr n g) ty (0, 0))) : Row w B ty n n g :=
  ⟨_, h, rowArr_size n g, fun j hj => by simp [rowArr, hj]⟩

/-- A new block, nothing known of it but its length. -/
theorem Row.new (w : World) (cs : Array Value) (ty : TypeId) (g : Nat → Value) : Row (w.alloc (.cells cs ty)) w.heap.size ty cs.size 0 g :=
  ⟨cs, heap_alloc_last w _, rfl, fun j hj => by omega⟩

theorem Row.new' (w : World) (cs : Array Value) (ty : TypeId) (g : Nat → Value) (B n : Nat) (hB : B = w.heap.size) (hn : cs.size = n) : Row (w.alloc (.cells cs ty)) B ty n 0 g := by
  subst hB hn; exact Row.new w cs ty g

theorem Row.new_whole (w : World) (cs : Array Value) (ty : TypeId) (g : Nat → Value) (B n : Nat) (hB : B = w.heap.size) (hn : cs = rowArr n g) : Row (w.alloc (.cells cs ty)) B ty n n g := by
  subst hB hn; exact Row.of_whole (heap_alloc_last w _)

theorem Row.alloc {w : World} {B : Nat} {ty : TypeId} {n k : Nat} {g : Nat → Value} (h : Row w B ty n k g) (o : Obj) : Row (w.alloc o) B ty n k g := by
  have hlt := h.lt
  obtain ⟨cs, h1, h2, h3⟩ := h
  exact ⟨cs, by rw [Below.heap_alloc _ _ _ hlt]; exact h1, h2, h3⟩

/-- A whole row is written, in a block of the call's own. -/
theorem below_setRow {B g : Nat} {a w : World} (h : Below B a w) (hg : B ≤ g) (cs : Array Value) : Below B a (w.setRow g cs) :=
  h.trans ⟨setRow_os _ _ _, setRow_tape _ _ _, setRow_output _ _ _, by simp [World.setRow], fun k hk => setRow_other _ _ _ _ (by omega)⟩

theorem Row.whole_set {w : World} {B : Nat} {ty : TypeId} {n k : Nat} {g f : Nat → Value} (h : Row w B ty n k g) : Row (w.setRow B (rowArr n f)) B ty n n f := by
  obtain ⟨cs, h1, _, _⟩ := h
  exact Row.of_whole (setRow_heap _ _ _ _ _ _ h1)

theorem Row.setRow_other {w : World} {B C : Nat} {ty : TypeId} {n k : Nat} {g : Nat → Value} (h : Row w B ty n k g) (hne : B ≠ C) (cs : Array Value) : Row (w.setRow C cs) B ty n k g := by
  obtain ⟨cs', h1, h2, h3⟩ := h
  exact ⟨cs', by rw [Go.setRow_other _ _ _ _ hne]; exact h1, h2, h3⟩

end Go.Proofs.YtcopjbapglndgaaGreatDoor.Sha
end
