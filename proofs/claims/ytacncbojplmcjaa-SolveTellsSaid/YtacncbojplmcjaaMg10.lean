/-
  A heap of equations: how it lies in memory; Len, Less.
  A heap of equations: Swap.
  A heap of equations: Swap, told by the list.
  A heap of equations: container/heap's up and down.
  A heap of equations: container/heap's down.
  A heap of equations: Pop; container/heap's Fix and Remove.
  A heap of equations: one of an equation's unknowns isn't open any more.
-/
import Derived.Test.YtacncbojplmcjaaMg9
import Derived.Laws.AppendOwn
import Derived.BigRegion
section
namespace Go.Proofs.Ytacncbojplmcjaa
open Go.ChangeShapes Go.WideShapes Go.ChangeAt Go.RowKit Go.Joins
set_option linter.unusedVariables false

def nV (f : Nat → Nat) (j : Nat) : Value := .int .i64 (f j : Int)
def lV (l : List Nat) (j : Nat) : Value := .int .i64 ((l.getD j 0 : Nat) : Int)

/-- Where a queue lies: its struct, its row of equations (an address, a block, a capacity), and the two other rows. -/
structure QP where
  qb : Nat
  ea : Option Addr
  eb : Nat
  cap : Nat
  ab : Nat
  ob : Nat

/-- The blocks of a queue. -/
def QP.X (q : QP) (b : Nat) : Prop := b = q.qb ∨ b = q.ab ∨ b = q.ob ∨ b = q.eb

/-- A queue of m equations in memory: es in a row, at tells the place of each, op its open ones. -/
structure Qm (w : World) (q : QP) (m : Nat) (es : List Nat) (at_ op : Nat → Nat) : Prop where
  head : w.heap[q.qb]? = some (.cells #[.slice q.ea es.length q.cap, .slice (some ⟨q.ab, 0, none⟩) m m, .slice (some ⟨q.ob, 0, none⟩) m m] 81 (0, 0))
  here : (es = [] ∧ q.cap = 0 ∧ q.ea = none) ∨ (q.ea = some ⟨q.eb, 0, none⟩ ∧ Row w q.eb 3 q.cap es.length (lV es) ∧ q.eb ≠ q.qb ∧ q.eb ≠ q.ab ∧ q.eb ≠ q.ob)
  len : es.length ≤ q.cap
  most : q.cap ≤ maxLen
  short : es.length ≤ m
  arow : Row w q.ab 3 m m (nV at_)
  orow : Row w q.ob 3 m m (nV op)
  d1 : q.qb ≠ q.ab
  d2 : q.qb ≠ q.ob
  d3 : q.ab ≠ q.ob
  low : ∀ e ∈ es, e < m
  nd : es.Nodup
  pos : ∀ i (h : i < es.length), at_ es[i] = i
  few : m ≤ 1000
  opb : ∀ e, op e ≤ 1000000

theorem lV_get {l : List Nat} {j : Nat} (h : j < l.length) : lV l j = .int .i64 ((l[j] : Nat) : Int) := by simp [lV, List.getD, h]
theorem Qm.lt {w : World} {q : QP} {m : Nat} {es : List Nat} {at_ op : Nat → Nat} (h : Qm w q m es at_ op) : q.qb < w.heap.size := (Array.getElem?_eq_some_iff.1 h.head).1
theorem Qm.cells {w : World} {q : QP} {m : Nat} {es : List Nat} {at_ op : Nat → Nat} (h : Qm w q m es at_ op) :
    w.cell? ⟨q.qb, 0, none⟩ = some (.slice q.ea es.length q.cap) ∧ w.cell? ⟨q.qb, 1, none⟩ = some (.slice (some ⟨q.ab, 0, none⟩) m m) ∧ w.cell? ⟨q.qb, 2, none⟩ = some (.slice (some ⟨q.ob, 0, none⟩) m m) := by
  refine ⟨?_, ?_, ?_⟩ <;> rw [cell_of_block h.head] <;> rfl
theorem Qm.some {w : World} {q : QP} {m : Nat} {es : List Nat} {at_ op : Nat → Nat} (h : Qm w q m es at_ op) {i : Nat} (hi : i < es.length) :
    q.ea = Option.some ⟨q.eb, 0, none⟩ ∧ w.cell? ⟨q.eb, i, none⟩ = Option.some (.int .i64 ((es[i] : Nat) : Int)) := by
  rcases h.here with ⟨rfl, _⟩ | ⟨h1, h2, _⟩
  · simp at hi
  · exact ⟨h1, by rw [h2.cell i hi, lV_get hi]⟩
theorem Qm.fr {X : Nat → Prop} {w w' : World} {q : QP} {m : Nat} {es : List Nat} {at_ op : Nat → Nat} (h : Qm w q m es at_ op) (k : Fr X w w') (hx : ∀ b, q.X b → ¬ X b) : Qm w' q m es at_ op := by
  have keep : ∀ {b n k : Nat} {g : Nat → Value}, q.X b → Row w b 3 n k g → Row w' b 3 n k g := fun {b n j g} hb ⟨cs, h1, h2, h3⟩ => ⟨cs, (k.block b (Array.getElem?_eq_some_iff.1 h1).1 (hx b hb)).trans h1, h2, h3⟩
  refine ⟨(k.block q.qb h.lt (hx _ (.inl rfl))).trans h.head, ?_, h.len, h.most, h.short, keep (.inr (.inl rfl)) h.arow, keep (.inr (.inr (.inl rfl))) h.orow, h.d1, h.d2, h.d3, h.low, h.nd, h.pos, h.few, h.opb⟩
  rcases h.here with e | ⟨h1, h2, h3⟩
  · exact .inl e
  · exact .inr ⟨h1, keep (.inr (.inr (.inr rfl))) h2, h3⟩

theorem meth_len (b : Nat) (w : World) : (method 250 77 (.pointer (some ⟨b, 0, none⟩)) "Len").run Try.prog w = .ok (31, .pointer (some ⟨b, 0, none⟩)) w := by kernel_rfl
theorem meth_less (b : Nat) (w : World) : (method 250 77 (.pointer (some ⟨b, 0, none⟩)) "Less").run Try.prog w = .ok (96, .pointer (some ⟨b, 0, none⟩)) w := by kernel_rfl
theorem meth_swap (b : Nat) (w : World) : (method 250 77 (.pointer (some ⟨b, 0, none⟩)) "Swap").run Try.prog w = .ok (99, .pointer (some ⟨b, 0, none⟩)) w := by kernel_rfl
theorem meth_push (b : Nat) (w : World) : (method 250 77 (.pointer (some ⟨b, 0, none⟩)) "Push").run Try.prog w = .ok (98, .pointer (some ⟨b, 0, none⟩)) w := by kernel_rfl
theorem meth_pop (b : Nat) (w : World) : (method 250 77 (.pointer (some ⟨b, 0, none⟩)) "Pop").run Try.prog w = .ok (97, .pointer (some ⟨b, 0, none⟩)) w := by kernel_rfl

theorem len_any (q : QP) (m : Nat) (es : List Nat) (at_ op : Nat → Nat) (w : World) (h : Qm w q m es at_ op) :
    Calls Try.prog 31 #[.pointer (some ⟨q.qb, 0, none⟩)] w fun e w' => e = .returned (.int .i64 (es.length : Int)) ∧ w = w' := by
  obtain ⟨c0, _, _⟩ := h.cells
  have hlm := h.short
  have hmf := h.few
  go_enter Try.func31, Try.ntmps31
  go_wp2_with fail
  go_ret
  exact ⟨rfl, rfl⟩

theorem fr_drawn {X : Nat → Prop} {a w : World} {q : Nat} (h : Fr X a w) : Fr X a (w.drewN q) := ⟨h.os, h.tape, h.output, h.size, h.block⟩
set_option maxRecDepth 100000 in
set_option maxHeartbeats 1000000 in
theorem less_any (q : QP) (m : Nat) (es : List Nat) (at_ op : Nat → Nat) (w : World) (h : Qm w q m es at_ op) (i j : Nat) (hi : i < es.length) (hj : j < es.length) :
    Calls Try.prog 96 #[.pointer (some ⟨q.qb, 0, none⟩), .int .i64 (i : Int), .int .i64 (j : Int)] w fun e w' => (∃ b : Bool, e = .returned (.bool b)) ∧ Fr (fun _ => False) w w' := by
  obtain ⟨c0, c1, c2⟩ := h.cells
  obtain ⟨e1, x1⟩ := h.some hi
  obtain ⟨_, x2⟩ := h.some hj
  have l1 := h.low _ (List.getElem_mem hi)
  have l2 := h.low _ (List.getElem_mem hj)
  have y1 := h.orow.cell _ l1
  have y2 := h.orow.cell _ l2
  have o1 := h.opb es[i]
  have o2 := h.opb es[j]
  have hlm := h.short
  have hmf := h.few
  have hcm := h.most
  have hcl := h.len
  have hm := h.few
  unfold nV at y1 y2
  rw [e1] at c0
  obtain ⟨a, ha⟩ : ∃ a, a = es[i] := ⟨_, rfl⟩
  obtain ⟨b, hb⟩ : ∃ a, a = es[j] := ⟨_, rfl⟩
  rw [← ha] at x1 y1 l1 o1
  rw [← hb] at x2 y2 l2 o2
  generalize op a = p at *
  generalize op b = r at *
  have l1z : (a : Int) < (m : Int) := by omega
  have l2z : (b : Int) < (m : Int) := by omega
  have i1z : (i : Int) < (es.length : Int) := by omega
  have j1z : (j : Int) < (es.length : Int) := by omega
  clear ha hb h
  by_cases hpr : p = r
  · have hn : ((p : Int) != (r : Int)) = false := by subst hpr; simp
    go_enter Try.func96, Try.ntmps96
    go_wp2_with fail
    go_quiet (fail)
    go_wp2_with fail
    go_quiet (fail)
    go_wp2_with fail
    go_ret
    exact ⟨⟨_, rfl⟩, by (repeat apply fr_drawn); exact Fr.refl _ _⟩
  · have hn : ((p : Int) != (r : Int)) = true := by simp; omega
    go_enter Try.func96, Try.ntmps96
    go_wp2_with fail
    go_quiet (fail)
    go_wp2_with fail
    go_quiet (fail)
    go_wp2_with fail
    go_quiet (fail)
    go_wp2_with fail
    go_ret
    exact ⟨⟨_, rfl⟩, by (repeat apply fr_drawn); exact Fr.refl _ _⟩
end Go.Proofs.Ytacncbojplmcjaa
end

section
namespace Go.Proofs.Ytacncbojplmcjaa
open Go.ChangeShapes Go.WideShapes Go.ChangeAt Go.RowKit Go.Joins
set_option linter.unusedVariables false

theorem nd_inj {l : List Nat} (h : l.Nodup) {i j : Nat} (hi : i < l.length) (hj : j < l.length) (e : l[i] = l[j]) : i = j := by
  rcases Nat.lt_trichotomy i j with hlt | rfl | hlt
  · exact absurd e (List.pairwise_iff_getElem.1 h i j hi hj hlt)
  · rfl
  · exact absurd e.symm (List.pairwise_iff_getElem.1 h j i hj hi hlt)

theorem cell_far {w : World} {p r : Addr} {u : Value} (h : p.block ≠ r.block) : (w.setCell p u).cell? r = w.cell? r := World.cell?_setCell_other _ _ _ _ fun e => h (by rw [e])
theorem cell_off {w : World} {b i j : Nat} {u : Value} (h : i ≠ j) : (w.setCell ⟨b, i, none⟩ u).cell? ⟨b, j, none⟩ = w.cell? ⟨b, j, none⟩ := World.cell?_setCell_other _ _ _ _ fun e => h (by injection e)
theorem cell_now {w : World} {p : Addr} {u v : Value} (h : w.cell? p = some v) : (w.setCell p u).cell? p = some u := World.cell?_setCell_same _ _ _ h

set_option maxRecDepth 1000000 in
set_option maxHeartbeats 16000000 in
theorem swap_raw (qb eb cap ab m L i j a b : Nat) (p r : Value) (w : World) (i1 : i < L) (j1 : j < L) (hij : i ≠ j) (hL : L ≤ cap) (hcm : cap ≤ maxLen) (hm : m ≤ 1000) (a1 : a < m) (b1 : b < m) (hab : a ≠ b)
    (c0 : w.cell? ⟨qb, 0, none⟩ = some (.slice (some ⟨eb, 0, none⟩) L cap)) (c1 : w.cell? ⟨qb, 1, none⟩ = some (.slice (some ⟨ab, 0, none⟩) m m))
    (x1 : w.cell? ⟨eb, i, none⟩ = some (.int .i64 (a : Int))) (x2 : w.cell? ⟨eb, j, none⟩ = some (.int .i64 (b : Int))) (f1 : w.frozen? ⟨eb, i, none⟩ = false) (f2 : w.frozen? ⟨eb, j, none⟩ = false)
    (y1 : w.cell? ⟨ab, a, none⟩ = some p) (y2 : w.cell? ⟨ab, b, none⟩ = some r) (g1 : w.frozen? ⟨ab, a, none⟩ = false) (g2 : w.frozen? ⟨ab, b, none⟩ = false)
    (d1 : qb ≠ ab) (d2 : eb ≠ qb) (d3 : eb ≠ ab) :
    Calls Try.prog 99 #[.pointer (some ⟨qb, 0, none⟩), .int .i64 (i : Int), .int .i64 (j : Int)] w fun e w' => e = .returned (.tuple #[]) ∧ ∃ n, w' = World.drewN ((((w.setCell ⟨eb, i, none⟩ (.int .i64 (b : Int))).setCell ⟨eb, j, none⟩ (.int .i64 (a : Int))).setCell ⟨ab, b, none⟩ (.int .i64 (i : Int))).setCell ⟨ab, a, none⟩ (.int .i64 (j : Int))) n := by
  have l1z : (a : Int) < (m : Int) := by omega
  have l2z : (b : Int) < (m : Int) := by omega
  have i1z : (i : Int) < (L : Int) := by omega
  have j1z : (j : Int) < (L : Int) := by omega
  go_enter Try.func99, Try.ntmps99
  go_wp2_with fail
  go_region
  go_wp2_with fail
  obtain ⟨w2, hw2⟩ : ∃ w2, w2 = ((w.setCell ⟨eb, i, none⟩ (.int .i64 (b : Int))).setCell ⟨eb, j, none⟩ (.int .i64 (a : Int))) := ⟨_, rfl⟩
  have C0 : w2.drew.cell? ⟨qb, 0, none⟩ = some (.slice (some ⟨eb, 0, none⟩) L cap) := by subst hw2; exact ((cell_far (p := ⟨eb, j, none⟩) d2).trans (cell_far (p := ⟨eb, i, none⟩) d2)).trans c0
  have C1 : w2.drew.cell? ⟨qb, 1, none⟩ = some (.slice (some ⟨ab, 0, none⟩) m m) := by subst hw2; exact ((cell_far (p := ⟨eb, j, none⟩) d2).trans (cell_far (p := ⟨eb, i, none⟩) d2)).trans c1
  have X1 : w2.drew.cell? ⟨eb, i, none⟩ = some (.int .i64 (b : Int)) := by subst hw2; exact (cell_off (Ne.symm hij)).trans (cell_now x1)
  have X2 : w2.drew.cell? ⟨eb, j, none⟩ = some (.int .i64 (a : Int)) := by subst hw2; exact cell_now ((cell_off hij).trans x2)
  have Y1 : w2.drew.cell? ⟨ab, a, none⟩ = some p := by subst hw2; exact ((cell_far (p := ⟨eb, j, none⟩) d3).trans (cell_far (p := ⟨eb, i, none⟩) d3)).trans y1
  have Y2 : w2.drew.cell? ⟨ab, b, none⟩ = some r := by subst hw2; exact ((cell_far (p := ⟨eb, j, none⟩) d3).trans (cell_far (p := ⟨eb, i, none⟩) d3)).trans y2
  have G1 : w2.drew.frozen? ⟨ab, a, none⟩ = false := by subst hw2; simpa using g1
  have G2 : w2.drew.frozen? ⟨ab, b, none⟩ = false := by subst hw2; simpa using g2
  have HE : Hid (∃ n, ((w2.drew.setCell ⟨ab, b, none⟩ (.int .i64 (i : Int))).setCell ⟨ab, a, none⟩ (.int .i64 (j : Int))).drew = World.drewN ((((w.setCell ⟨eb, i, none⟩ (.int .i64 (b : Int))).setCell ⟨eb, j, none⟩ (.int .i64 (a : Int))).setCell ⟨ab, b, none⟩ (.int .i64 (i : Int))).setCell ⟨ab, a, none⟩ (.int .i64 (j : Int))) n) := by subst hw2; exact ⟨2, rfl⟩
  rw [← hw2]
  generalize w2.drew = w3 at *
  clear c0 c1 x1 x2 y1 y2 f1 f2 g1 g2 hw2
  go_region
  go_wp2_with fail
  go_end0
  exact ⟨rfl, HE.out⟩
end Go.Proofs.Ytacncbojplmcjaa
end

section
namespace Go.Proofs.Ytacncbojplmcjaa
open Go.ChangeShapes Go.WideShapes Go.ChangeAt Go.RowKit Go.Joins
set_option linter.unusedVariables false

/-- Two places change. -/
def swapL (es : List Nat) (i j : Nat) : List Nat := (es.set i (es.getD j 0)).set j (es.getD i 0)
/-- A function, another value at one place. -/
def upd (f : Nat → Nat) (a b : Nat) : Nat → Nat := fun x => if x = a then b else f x

theorem swapL_len (es : List Nat) (i j : Nat) : (swapL es i j).length = es.length := by simp [swapL]
theorem swapL_get {es : List Nat} {i j k : Nat} (hi : i < es.length) (hj : j < es.length) (hk : k < (swapL es i j).length) : (swapL es i j)[k] = if k = j then es[i] else if k = i then es[j] else es[k]'(by rw [swapL_len] at hk; exact hk) := by
  unfold swapL at hk ⊢
  rw [List.getElem_set]
  by_cases h1 : j = k
  · subst h1; simp [List.getD, hi]
  · rw [if_neg h1, if_neg (fun e => h1 e.symm), List.getElem_set]
    by_cases h2 : i = k
    · subst h2; simp [List.getD, hj]
    · rw [if_neg h2, if_neg (fun e => h2 e.symm)]
theorem swapL_perm {es : List Nat} {i j : Nat} (hi : i < es.length) (hj : j < es.length) : (swapL es i j).Perm es := by
  unfold swapL
  have h := (Array.swap_perm (xs := es.toArray) (i := i) (j := j) (by simpa using hi) (by simpa using hj)).toList
  have e : (es.toArray.swap i j (by simpa using hi) (by simpa using hj)).toList = (es.set i (es.getD j 0)).set j (es.getD i 0) := by
    simp [Array.swap, List.getD, hi, hj]
  rw [e] at h
  simpa using h

/-- A queue whose row of equations was changed about. -/
def Turned (q : QP) (m : Nat) (op : Nat → Nat) (es es' : List Nat) (w w' : World) : Prop := (∃ at_, Qm w' q m es' at_ op) ∧ es'.Perm es ∧ Fr q.X w w'

theorem swap_any (q : QP) (m : Nat) (es : List Nat) (at_ op : Nat → Nat) (w : World) (h : Qm w q m es at_ op) (i j : Nat) (hi : i < es.length) (hj : j < es.length) (hij : i ≠ j) :
    Calls Try.prog 99 #[.pointer (some ⟨q.qb, 0, none⟩), .int .i64 (i : Int), .int .i64 (j : Int)] w fun e w' => e = .returned (.tuple #[]) ∧ Turned q m op es (swapL es i j) w w' := by
  obtain ⟨c0, c1, c2⟩ := h.cells
  obtain ⟨e1, x1⟩ := h.some hi
  obtain ⟨_, x2⟩ := h.some hj
  have l1 := h.low _ (List.getElem_mem hi)
  have l2 := h.low _ (List.getElem_mem hj)
  obtain ⟨E1, E2, E3, E4, E5⟩ := h.here.resolve_left (fun e => by rw [e.1] at hi; simp at hi)
  have hne : es[i] ≠ es[j] := fun e => hij (nd_inj h.nd hi hj e)
  rw [e1] at c0
  refine (swap_raw q.qb q.eb q.cap q.ab m es.length i j es[i] es[j] _ _ w hi hj hij h.len h.most h.few l1 l2 hne c0 c1 x1 x2 (E2.loose i) (E2.loose j) (h.arow.cell _ l1) (h.arow.cell _ l2) (h.arow.loose _) (h.arow.loose _) h.d1 E3 E4).mono ?_
  rintro e w' ⟨rfl, n, rfl⟩
  refine ⟨rfl, ⟨upd (upd at_ es[j] i) es[i] j, Qm.fr (X := fun _ => False) ?_ (fr_drawn (Fr.refl _ _)) (fun _ _ h => h)⟩, swapL_perm hi hj, fr_drawn ?_⟩
  · have hl := swapL_len es i j
    have R1 : Row (((w.setCell ⟨q.eb, i, none⟩ (.int .i64 ((es[j] : Nat) : Int))).setCell ⟨q.eb, j, none⟩ (.int .i64 ((es[i] : Nat) : Int)))) q.eb 3 q.cap es.length (lV (swapL es i j)) := by
      refine ((E2.upd i (Nat.lt_of_lt_of_le hi h.len) _).upd j (Nat.lt_of_lt_of_le hj h.len) _).mono (Nat.le_refl _) fun k hk => ?_
      have hk2 : k < (swapL es i j).length := by rw [hl]; exact hk
      rw [lV_get hk2, swapL_get hi hj hk2]
      show (if k = j then _ else if k = i then _ else _) = _
      by_cases k1 : k = j
      · rw [if_pos k1, if_pos k1]
      · rw [if_neg k1, if_neg k1]
        by_cases k2 : k = i
        · rw [if_pos k2, if_pos k2]
        · rw [if_neg k2, if_neg k2]
          exact lV_get hk
    have A1 : Row (((w.setCell ⟨q.eb, i, none⟩ (.int .i64 ((es[j] : Nat) : Int))).setCell ⟨q.eb, j, none⟩ (.int .i64 ((es[i] : Nat) : Int)))) q.ab 3 m m (nV at_) := (h.arow.other (Ne.symm E4)).other (Ne.symm E4)
    have A2 := ((A1.upd es[j] l2 (.int .i64 (i : Int))).upd es[i] l1 (.int .i64 (j : Int))).mono (f := nV (upd (upd at_ es[j] i) es[i] j)) (Nat.le_refl _) fun k hk => by
      unfold nV upd
      split
      · rfl
      · split <;> rfl
    refine Qm.mk ?_ (.inr ⟨e1, ?_, E3, E4, E5⟩) (by rw [hl]; exact h.len) h.most (by rw [hl]; exact h.short) A2 ?_ h.d1 h.d2 h.d3 ?_ ?_ ?_ h.few h.opb
    · rw [hl]
      refine Eq.trans ?_ h.head
      rw [Below.heap_setCell _ _ _ _ h.d1, Below.heap_setCell _ _ _ _ h.d1, Below.heap_setCell _ _ _ _ (Ne.symm E3), Below.heap_setCell _ _ _ _ (Ne.symm E3)]
    · rw [hl]
      exact (R1.other E4).other E4
    · have o1 : Row (w.setCell ⟨q.eb, i, none⟩ (.int .i64 ((es[j] : Nat) : Int))) q.ob 3 m m (nV op) := h.orow.other (Ne.symm E5)
      have o2 : Row ((w.setCell ⟨q.eb, i, none⟩ (.int .i64 ((es[j] : Nat) : Int))).setCell ⟨q.eb, j, none⟩ (.int .i64 ((es[i] : Nat) : Int))) q.ob 3 m m (nV op) := o1.other (Ne.symm E5)
      exact (o2.other (Ne.symm h.d3)).other (Ne.symm h.d3)
    · intro e he
      exact h.low e ((swapL_perm hi hj).mem_iff.1 he)
    · exact (swapL_perm hi hj).nodup_iff.2 h.nd
    · intro k hk
      have hk2 : k < es.length := by rw [hl] at hk; exact hk
      rw [swapL_get hi hj hk]
      unfold upd
      by_cases k1 : k = j
      · subst k1; simp
      · by_cases k2 : k = i
        · subst k2; rw [if_neg k1, if_pos rfl, if_neg (fun e => hne e.symm), if_pos rfl]
        · rw [if_neg k1, if_neg k2, if_neg (fun e => k2 (nd_inj h.nd hk2 hi e)), if_neg (fun e => k1 (nd_inj h.nd hk2 hj e))]
          exact h.pos k hk2
  · refine Fr.set (Fr.set (Fr.set (Fr.set (Fr.refl _ _) ?_ _) ?_ _) ?_ _) ?_ _
    · exact fun _ => .inr (.inr (.inr rfl))
    · exact fun _ => .inr (.inr (.inr rfl))
    · exact fun _ => .inr (.inl rfl)
    · exact fun _ => .inr (.inl rfl)
end Go.Proofs.Ytacncbojplmcjaa
end

section
namespace Go.Proofs.Ytacncbojplmcjaa
open Go.ChangeShapes Go.WideShapes Go.ChangeAt Go.RowKit Go.Joins
set_option linter.unusedVariables false

theorem Turned.refl {q : QP} {m : Nat} {op : Nat → Nat} {es : List Nat} {at_ : Nat → Nat} {w : World} (h : Qm w q m es at_ op) : Turned q m op es es w w := ⟨⟨at_, h⟩, List.Perm.refl _, Fr.refl _ _⟩
theorem Turned.still {q : QP} {m : Nat} {op : Nat → Nat} {es es' : List Nat} {w w' w'' : World} (h : Turned q m op es es' w w') (k : Fr (fun _ => False) w' w'') : Turned q m op es es' w w'' := by
  obtain ⟨⟨a, h1⟩, h2, h3⟩ := h
  exact ⟨⟨a, h1.fr k fun _ _ h => h⟩, h2, h3.trans (k.mono fun _ _ h => h.elim)⟩
theorem Turned.trans {q : QP} {m : Nat} {op : Nat → Nat} {es es1 es2 : List Nat} {w w1 w2 : World} (h : Turned q m op es es1 w w1) (k : Turned q m op es1 es2 w1 w2) : Turned q m op es es2 w w2 :=
  ⟨k.1, k.2.1.trans h.2.1, h.2.2.trans k.2.2⟩

/-- A call on a queue of this list: Len, Less, Swap. -/
structure QCalls (q : QP) (m : Nat) (op : Nat → Nat) : Prop where
  len : ∀ (es : List Nat) (at_ : Nat → Nat) (w : World), Qm w q m es at_ op → Calls Try.prog 31 #[.pointer (some ⟨q.qb, 0, none⟩)] w fun e w' => e = .returned (.int .i64 (es.length : Int)) ∧ w = w'
  less : ∀ (es : List Nat) (at_ : Nat → Nat) (w : World), Qm w q m es at_ op → ∀ (i j : Nat), i < es.length → j < es.length → Calls Try.prog 96 #[.pointer (some ⟨q.qb, 0, none⟩), .int .i64 (i : Int), .int .i64 (j : Int)] w fun e w' => (∃ b : Bool, e = .returned (.bool b)) ∧ Fr (fun _ => False) w w'
  swap : ∀ (es : List Nat) (at_ : Nat → Nat) (w : World), Qm w q m es at_ op → ∀ (i j : Nat), i < es.length → j < es.length → i ≠ j → Calls Try.prog 99 #[.pointer (some ⟨q.qb, 0, none⟩), .int .i64 (i : Int), .int .i64 (j : Int)] w fun e w' => e = .returned (.tuple #[]) ∧ Turned q m op es (swapL es i j) w w'
theorem qcalls (q : QP) (m : Nat) (op : Nat → Nat) : QCalls q m op :=
  ⟨fun es at_ w h => len_any q m es at_ op w h, fun es at_ w h i j hi hj => less_any q m es at_ op w h i j hi hj, fun es at_ w h i j hi hj hij => swap_any q m es at_ op w h i j hi hj hij⟩

theorem swapL_far {es : List Nat} {i j k : Nat} (hi : i < es.length) (hj : j < es.length) (h1 : k ≠ i) (h2 : k ≠ j) : (swapL es i j)[k]? = es[k]? := by
  unfold swapL
  rw [List.getElem?_set_ne (Ne.symm h2), List.getElem?_set_ne (Ne.symm h1)]

set_option maxRecDepth 100000 in
set_option maxHeartbeats 4000000 in
theorem up_any (q : QP) (m : Nat) (es : List Nat) (at_ op : Nat → Nat) (w : World) (h : Qm w q m es at_ op) (j : Nat) (hj : j < es.length) :
    Calls Try.prog 53 #[.iface 77 (.pointer (some ⟨q.qb, 0, none⟩)), .int .i64 (j : Int)] w fun e w' => e = .returned (.tuple #[]) ∧ ∃ es', Turned q m op es es' w w' ∧ ∀ k, j < k → es'[k]? = es[k]? := by
  have HQ := Lib.hid (qcalls q m op)
  have HT0 : Hid (Turned q m op es es w w) := Turned.refl h
  have hlm : es.length ≤ 1000 := Nat.le_trans h.short h.few
  have m1 := meth_less q.qb
  have m2 := meth_swap q.qb
  clear h
  go_enter Try.func53, Try.ntmps53
  go_wp2_with fail
  go_loopw [1] (fun v wr => ∃ (k : Nat) (es' : List Nat), k ≤ j ∧ v = .int .i64 k ∧ Hid (Turned q m op es es' w wr) ∧ Hid (∀ x, j < x → es'[x]? = es[x]?)) (fun v _ => (intOf v).toNat)
  case atStart => exact ⟨j, es, by omega, rfl, HT0, fun x _ => rfl⟩
  case round =>
    obtain ⟨k, es', hk, rfl, HT, HF⟩ := hrel
    clear HT0
    by_cases k0 : k = 0
    · subst k0
      go_wp2_with fail
      go_end0
      exact ⟨rfl, es', HT.out, HF.out⟩
    · obtain ⟨p, hp⟩ : ∃ p, p = (k - 1) / 2 := ⟨_, rfl⟩
      have hq : ((k : Int) - 1).tdiv 2 = (p : Int) := by rw [show (k : Int) - 1 = ((k - 1 : Nat) : Int) by omega, hp]; exact (Int.ofNat_tdiv _ _).symm
      have hpk : p < k := by omega
      clear hp
      have he : ((p : Int) == (k : Int)) = false := by simp; omega
      have hl : es'.length = es.length := HT.out.2.1.length_eq
      obtain ⟨a1, Q1⟩ := HT.out.1
      have HL := Lib.hid (HQ.out.less es' a1 wr Q1 k p (by omega) (by omega))
      clear Q1
      go_wp2_with fail
      (with_reducible refine HL.out.mono ?_)
      rintro e w1 ⟨⟨b, rfl⟩, f1⟩
      have HT1 := Lib.hid (HT.out.still f1)
      clear f1 HL HT
      cases b
      · go_wp2_with fail
        go_end0
        exact ⟨rfl, es', HT1.out, HF.out⟩
      · obtain ⟨a2, Q2⟩ := HT1.out.1
        have HS := Lib.hid (HQ.out.swap es' a2 w1 Q2 p k (by omega) (by omega) (by omega))
        clear Q2
        go_wp2_with fail
        (with_reducible refine HS.out.mono ?_)
        rintro e w2 ⟨rfl, t2⟩
        have HT2 := Lib.hid (HT1.out.trans t2)
        have HF2 : Hid (∀ x, j < x → (swapL es' p k)[x]? = es[x]?) := fun x hx => (swapL_far (by omega) (by omega) (by omega) (by omega)).trans (HF.out x hx)
        clear t2 HS HT1 HF
        go_wp2_with fail
        go_roundw
        case rel => exact ⟨p, swapL es' p k, by omega, rfl, HT2, HF2⟩
        case measure => simp [intOf]; omega
end Go.Proofs.Ytacncbojplmcjaa
end

section
namespace Go.Proofs.Ytacncbojplmcjaa
open Go.ChangeShapes Go.WideShapes Go.ChangeAt Go.RowKit Go.Joins
set_option linter.unusedVariables false

set_option maxRecDepth 100000 in
set_option maxHeartbeats 4000000 in
theorem down_any (q : QP) (m : Nat) (es : List Nat) (at_ op : Nat → Nat) (w : World) (h : Qm w q m es at_ op) (i n : Nat) (hi : i < n) (hn : n ≤ es.length) :
    Calls Try.prog 56 #[.iface 77 (.pointer (some ⟨q.qb, 0, none⟩)), .int .i64 (i : Int), .int .i64 (n : Int)] w fun e w' => (∃ b : Bool, e = .returned (.bool b)) ∧ ∃ es', Turned q m op es es' w w' ∧ ∀ k, n ≤ k → es'[k]? = es[k]? := by
  have HQ := Lib.hid (qcalls q m op)
  have HT0 : Hid (Turned q m op es es w w) := Turned.refl h
  have hlm : es.length ≤ 1000 := Nat.le_trans h.short h.few
  have m1 := meth_less q.qb
  have m2 := meth_swap q.qb
  clear h
  go_enter Try.func56, Try.ntmps56
  go_wp2_with fail
  go_loopw [7] (fun v wr => ∃ (k : Nat) (es' : List Nat), k < n ∧ v = .int .i64 k ∧ Hid (Turned q m op es es' w wr) ∧ Hid (∀ x, n ≤ x → es'[x]? = es[x]?)) (fun v _ => n - (intOf v).toNat)
  case atStart => exact ⟨i, es, hi, rfl, HT0, fun x _ => rfl⟩
  case round =>
    obtain ⟨k, es', hk, rfl, HT, HF⟩ := hrel
    clear HT0
    have hl : es'.length = es.length := HT.out.2.1.length_eq
    obtain ⟨p, hp⟩ : ∃ p, p = 2 * k + 1 := ⟨_, rfl⟩
    have hq : 2 * (k : Int) + 1 = (p : Int) := by omega
    have hkp : k < p := by omega
    clear hp
    by_cases hpn : n ≤ p
    · have d1 : decide ((n : Int) ≤ (p : Int)) = true := by simp; omega
      go_wp2_with fail
      go_ret
      exact ⟨⟨_, rfl⟩, es', HT.out, HF.out⟩
    have d1 : decide ((n : Int) ≤ (p : Int)) = false := by simp; omega
    have d2 : decide ((p : Int) < 0) = false := by rw [decide_eq_false_iff_not]; omega
    obtain ⟨r, hr⟩ : ∃ r, r = p + 1 := ⟨_, rfl⟩
    have hq2 : (p : Int) + 1 = (r : Int) := by omega
    have hkr : p < r := by omega
    clear hr
    by_cases hrn : r < n
    · have d3 : decide ((r : Int) < (n : Int)) = true := by simp; omega
      obtain ⟨a1, Q1⟩ := HT.out.1
      have HL := Lib.hid (HQ.out.less es' a1 wr Q1 r p (by omega) (by omega))
      clear Q1
      go_wp2_with fail
      (with_reducible refine HL.out.mono ?_)
      rintro e w1 ⟨⟨b, rfl⟩, f1⟩
      have HT1 := Lib.hid (HT.out.still f1)
      clear f1 HL HT
      cases b
      · -- the left one
        obtain ⟨a2, Q2⟩ := HT1.out.1
        have HL2 := Lib.hid (HQ.out.less es' a2 w1 Q2 p k (by omega) (by omega))
        clear Q2
        go_wp2_with fail
        (with_reducible refine HL2.out.mono ?_)
        rintro e w2 ⟨⟨b, rfl⟩, f1⟩
        have HT2 := Lib.hid (HT1.out.still f1)
        clear f1 HL2 HT1
        cases b
        · go_wp2_with fail
          go_ret
          exact ⟨⟨_, rfl⟩, es', HT2.out, HF.out⟩
        · obtain ⟨a3, Q3⟩ := HT2.out.1
          have HS := Lib.hid (HQ.out.swap es' a3 w2 Q3 k p (by omega) (by omega) (by omega))
          clear Q3
          go_wp2_with fail
          (with_reducible refine HS.out.mono ?_)
          rintro e w3 ⟨rfl, t3⟩
          have HT3 := Lib.hid (HT2.out.trans t3)
          have HF3 : Hid (∀ x, n ≤ x → (swapL es' k p)[x]? = es[x]?) := fun x hx => (swapL_far (by omega) (by omega) (by omega) (by omega)).trans (HF.out x hx)
          clear t3 HS HT2 HF
          go_wp2_with fail
          go_roundw
          case rel => exact ⟨p, swapL es' k p, by omega, rfl, HT3, HF3⟩
          case measure => simp [intOf]; omega
      · -- the right one
        obtain ⟨a2, Q2⟩ := HT1.out.1
        have HL2 := Lib.hid (HQ.out.less es' a2 w1 Q2 r k (by omega) (by omega))
        clear Q2
        go_wp2_with fail
        (with_reducible refine HL2.out.mono ?_)
        rintro e w2 ⟨⟨b, rfl⟩, f1⟩
        have HT2 := Lib.hid (HT1.out.still f1)
        clear f1 HL2 HT1
        cases b
        · go_wp2_with fail
          go_ret
          exact ⟨⟨_, rfl⟩, es', HT2.out, HF.out⟩
        · obtain ⟨a3, Q3⟩ := HT2.out.1
          have HS := Lib.hid (HQ.out.swap es' a3 w2 Q3 k r (by omega) (by omega) (by omega))
          clear Q3
          go_wp2_with fail
          (with_reducible refine HS.out.mono ?_)
          rintro e w3 ⟨rfl, t3⟩
          have HT3 := Lib.hid (HT2.out.trans t3)
          have HF3 : Hid (∀ x, n ≤ x → (swapL es' k r)[x]? = es[x]?) := fun x hx => (swapL_far (by omega) (by omega) (by omega) (by omega)).trans (HF.out x hx)
          clear t3 HS HT2 HF
          go_wp2_with fail
          go_roundw
          case rel => exact ⟨r, swapL es' k r, by omega, rfl, HT3, HF3⟩
          case measure => simp [intOf]; omega
    · have d3 : decide ((r : Int) < (n : Int)) = false := by simp; omega
      obtain ⟨w1, rfl⟩ : ∃ x, x = wr := ⟨_, rfl⟩
      have HT1 := HT
      clear HT
      obtain ⟨a2, Q2⟩ := HT1.out.1
      have HL2 := Lib.hid (HQ.out.less es' a2 w1 Q2 p k (by omega) (by omega))
      clear Q2
      go_wp2_with fail
      (with_reducible refine HL2.out.mono ?_)
      rintro e w2 ⟨⟨b, rfl⟩, f1⟩
      have HT2 := Lib.hid (HT1.out.still f1)
      clear f1 HL2 HT1
      cases b
      · go_wp2_with fail
        go_ret
        exact ⟨⟨_, rfl⟩, es', HT2.out, HF.out⟩
      · obtain ⟨a3, Q3⟩ := HT2.out.1
        have HS := Lib.hid (HQ.out.swap es' a3 w2 Q3 k p (by omega) (by omega) (by omega))
        clear Q3
        go_wp2_with fail
        (with_reducible refine HS.out.mono ?_)
        rintro e w3 ⟨rfl, t3⟩
        have HT3 := Lib.hid (HT2.out.trans t3)
        have HF3 : Hid (∀ x, n ≤ x → (swapL es' k p)[x]? = es[x]?) := fun x hx => (swapL_far (by omega) (by omega) (by omega) (by omega)).trans (HF.out x hx)
        clear t3 HS HT2 HF
        go_wp2_with fail
        go_roundw
        case rel => exact ⟨p, swapL es' k p, by omega, rfl, HT3, HF3⟩
        case measure => simp [intOf]; omega
end Go.Proofs.Ytacncbojplmcjaa
end

section
namespace Go.Proofs.Ytacncbojplmcjaa
open Go.ChangeShapes Go.WideShapes Go.ChangeAt Go.RowKit Go.Joins
set_option linter.unusedVariables false

/-- The last equation is taken out of the row. -/
theorem Qm.pop {w : World} {q : QP} {m : Nat} {es : List Nat} {at_ op : Nat → Nat} (h : Qm w q m es at_ op) {n : Nat} (hn : es.length = n + 1) :
    Qm (w.setCell ⟨q.qb, 0, none⟩ (.slice q.ea n q.cap)) q m (es.take n) at_ op := by
  have hl : (es.take n).length = n := by rw [List.length_take]; omega
  obtain ⟨E1, E2, E3, E4, E5⟩ := h.here.resolve_left (fun e => by rw [e.1] at hn; simp at hn)
  have hs := h.short
  have hc := h.len
  refine ⟨?_, .inr ⟨E1, ?_, E3, E4, E5⟩, by omega, h.most, by omega, h.arow.other (C := q.qb) (Ne.symm h.d1), h.orow.other (C := q.qb) (Ne.symm h.d2), h.d1, h.d2, h.d3, ?_, ?_, ?_, h.few, h.opb⟩
  · rw [hl]
    have := block_setCell (i := 0) h.head (.slice q.ea n q.cap)
    rw [this]
    rfl
  · rw [hl]
    refine (E2.other (C := q.qb) E3).mono (by omega) fun j hj => ?_
    rw [lV_get (by omega), lV_get (by omega), List.getElem_take]
  · exact fun e he => h.low e (List.mem_of_mem_take he)
  · exact h.nd.sublist (List.take_sublist _ _)
  · intro i hi
    rw [List.getElem_take]
    exact h.pos i (by omega)

set_option maxHeartbeats 1000000 in
theorem pop_any (q : QP) (m : Nat) (es : List Nat) (at_ op : Nat → Nat) (w : World) (h : Qm w q m es at_ op) (n : Nat) (hn : es.length = n + 1) :
    Calls Try.prog 97 #[.pointer (some ⟨q.qb, 0, none⟩)] w fun e w' => (∃ v, e = .returned v) ∧ Qm w' q m (es.take n) at_ op ∧ Fr q.X w w' := by
  obtain ⟨c0, _, _⟩ := h.cells
  have HP := Lib.hid (h.pop hn)
  obtain ⟨e1, x1⟩ := h.some (i := n) (by omega)
  have z0 : w.frozen? ⟨q.qb, 0, none⟩ = false := unfrozen_of_block h.head 0
  have hs := h.short
  have hm := h.few
  have hc := h.len
  have hcm := h.most
  rw [e1] at c0 HP
  rw [hn] at c0
  generalize es[n] = x at *
  have d1 : ((n + 1 : Nat) : Int) - 1 = (n : Int) := by omega
  have d2 : (n : Int) < ((n + 1 : Nat) : Int) := by omega
  have d3 : n ≤ q.cap := by omega
  have hnb : n ≤ 1000 := by omega
  have HF : Hid (Fr q.X w (w.setCell ⟨q.qb, 0, none⟩ (.slice (some ⟨q.eb, 0, none⟩) n q.cap))) := (Fr.refl _ _).set (p := ⟨q.qb, 0, none⟩) (fun _ => .inl rfl) _
  clear h hs hm e1 hn
  go_enter Try.func97, Try.ntmps97
  go_wp2_with fail
  go_ret
  exact ⟨⟨_, rfl⟩, HP.out, HF.out⟩

set_option maxHeartbeats 1000000 in
theorem fix_any (q : QP) (m : Nat) (es : List Nat) (at_ op : Nat → Nat) (w : World) (h : Qm w q m es at_ op) (i : Nat) (hi : i < es.length) :
    Calls Try.prog 44 #[.iface 77 (.pointer (some ⟨q.qb, 0, none⟩)), .int .i64 (i : Int)] w fun e w' => e = .returned (.tuple #[]) ∧ ∃ es', Turned q m op es es' w w' := by
  have HQ := Lib.hid (qcalls q m op)
  have HL := Lib.hid (len_any q m es at_ op w h)
  have HD := Lib.hid (down_any q m es at_ op w h i es.length hi (Nat.le_refl _))
  have m1 := meth_len q.qb
  clear h
  go_enter Try.func44, Try.ntmps44
  go_wp2_with fail
  (with_reducible refine HL.out.mono ?_)
  rintro e w' ⟨rfl, rfl⟩
  go_wp2_with fail
  (with_reducible refine HD.out.mono ?_)
  rintro e w1 ⟨⟨b, rfl⟩, es1, t1, _⟩
  have HT1 := Lib.hid t1
  obtain ⟨⟨a1, Q1⟩, p1, _⟩ := t1
  have HU := Lib.hid (up_any q m es1 a1 op w1 Q1 i (by rw [p1.length_eq]; exact hi))
  clear Q1 p1 HD HL
  cases b
  · go_wp2_with fail
    (with_reducible refine HU.out.mono ?_)
    rintro e w2 ⟨rfl, es2, t2, _⟩
    have HT2 := Lib.hid (HT1.out.trans t2)
    clear t2 HU
    go_wp2_with fail
    go_end0
    exact ⟨rfl, es2, HT2.out⟩
  · go_wp2_with fail
    go_end0
    exact ⟨rfl, es1, HT1.out⟩

/-- An equation e is taken out of a queue. -/
def Out (q : QP) (m : Nat) (op : Nat → Nat) (es : List Nat) (e : Nat) (w w' : World) : Prop := ∃ es' at_, Qm w' q m es' at_ op ∧ (es' ++ [e]).Perm es ∧ Fr q.X w w'
theorem out_of {q : QP} {m : Nat} {op at_ : Nat → Nat} {es es1 : List Nat} {e n : Nat} {w w1 w2 : World} (h : Turned q m op es es1 w w1) (hn : es.length = n + 1) (he : es1[n]? = some e) (k : Qm w2 q m (es1.take n) at_ op) (kf : Fr q.X w1 w2) : Out q m op es e w w2 := by
  refine ⟨es1.take n, at_, k, ?_, h.2.2.trans kf⟩
  have hl : es1.length = n + 1 := by rw [h.2.1.length_eq, hn]
  have : es1.take n ++ [e] = es1 := by
    obtain ⟨hlt, e1⟩ := List.getElem?_eq_some_iff.1 he
    have := List.take_append_drop n es1
    rw [List.drop_eq_getElem_cons hlt, e1, List.drop_eq_nil_of_le (by omega)] at this
    exact this
  rw [this]
  exact h.2.1

set_option maxRecDepth 100000 in
set_option maxHeartbeats 4000000 in
theorem remove_any (q : QP) (m : Nat) (es : List Nat) (at_ op : Nat → Nat) (w : World) (h : Qm w q m es at_ op) (i : Nat) (hi : i < es.length) :
    Calls Try.prog 43 #[.iface 77 (.pointer (some ⟨q.qb, 0, none⟩)), .int .i64 (i : Int)] w fun e w' => (∃ v, e = .returned v) ∧ Out q m op es es[i] w w' := by
  obtain ⟨n, hn⟩ : ∃ n, es.length = n + 1 := ⟨es.length - 1, by omega⟩
  have HL := Lib.hid (len_any q m es at_ op w h)
  have HP := Lib.hid (fun es at_ w h hn => pop_any q m es at_ op w h n hn)
  have m1 := meth_len q.qb
  have m2 := meth_swap q.qb
  have m3 := meth_pop q.qb
  rw [hn] at HL
  have hm := h.few
  have hs := h.short
  have d1 : ((n + 1 : Nat) : Int) - 1 = (n : Int) := by omega
  have hnb : n ≤ 1000 := by omega
  have HT0 : Hid (Turned q m op es es w w) := Turned.refl h
  by_cases hin : i = n
  · have hie : es[n]? = some es[i] := by subst hin; simp
    have HO := Lib.hid (fun (w2 : World) (k : Qm w2 q m (es.take n) at_ op) kf => out_of HT0.out hn hie k kf)
    have HP1 := Lib.hid (HP.out es at_ w h hn)
    subst hin
    generalize es[i] = x at *
    clear h hie hs HP
    go_enter Try.func43, Try.ntmps43
    go_wp2_with fail
    (with_reducible refine HL.out.mono ?_)
    rintro e w' ⟨rfl, rfl⟩
    go_wp2_with fail
    (with_reducible refine HP1.out.mono ?_)
    rintro e w2 ⟨⟨v, rfl⟩, k1, k2⟩
    have HE := Lib.hid (HO.out w2 k1 k2)
    clear k1 k2
    go_wp2_with fail
    go_ret
    exact ⟨⟨_, rfl⟩, HE.out⟩
  · have HS := Lib.hid (swap_any q m es at_ op w h i n hi (by omega) hin)
    have HG : Hid (∀ es1 : List Nat, (∀ k : Nat, n ≤ k → es1[k]? = (swapL es i n)[k]?) → es1[n]? = some es[i]) := fun es1 h1 => by
      rw [h1 n (Nat.le_refl _)]
      unfold swapL
      rw [List.getElem?_set_self (by simp; omega)]
      simp [List.getD, hi]
    have HO : Hid (∀ (es1 : List Nat) (at1 : Nat → Nat) (w1 w2 : World), Turned q m op es es1 w w1 → es1[n]? = some es[i] → Qm w2 q m (es1.take n) at1 op → Fr q.X w1 w2 → Out q m op es es[i] w w2) := fun es1 at1 w1 w2 t he k kf => out_of t hn he k kf
    have HD := Lib.hid (fun es at_ w h hn => down_any q m es at_ op w h i n (by omega) hn)
    have HU := Lib.hid (fun es at_ w h hi => up_any q m es at_ op w h i hi)
    have hlz : (swapL es i n).length = n + 1 := by rw [swapL_len, hn]
    have hne : ((n : Int) != (i : Int)) = true := by simp; omega
    have hi2 : i < n := by omega
    generalize es[i] = x at *
    clear h
    go_enter Try.func43, Try.ntmps43
    go_wp2_with fail
    (with_reducible refine HL.out.mono ?_)
    rintro e w' ⟨rfl, rfl⟩
    go_wp2_with fail
    (with_reducible refine HS.out.mono ?_)
    rintro e w1 ⟨rfl, t1⟩
    have HT1 := Lib.hid (HT0.out.trans t1)
    obtain ⟨⟨a1, Q1⟩, _, _⟩ := t1
    have HD1 := Lib.hid (HD.out _ a1 w1 Q1 (by omega))
    clear Q1
    go_wp2_with fail
    (with_reducible refine HD1.out.mono ?_)
    rintro e w2 ⟨⟨b, rfl⟩, es2, t2, f2⟩
    have HT2 := Lib.hid (HT1.out.trans t2)
    have HF2 := Lib.hid (HG.out es2 f2)
    have HF2' := Lib.hid f2
    obtain ⟨⟨a2, Q2⟩, p2, _⟩ := t2
    have hl2 : es2.length = n + 1 := by rw [p2.length_eq, hlz]
    clear HT1 HD1 HD f2 p2
    cases b
    · have HU2 := Lib.hid (HU.out es2 a2 w2 Q2 (by omega))
      clear Q2
      go_wp2_with fail
      (with_reducible refine HU2.out.mono ?_)
      rintro e w3 ⟨rfl, es3, t3, f3⟩
      have HT3 := Lib.hid (HT2.out.trans t3)
      have HF3 := Lib.hid (HG.out es3 fun k hk => (f3 k (by omega)).trans (HF2'.out k hk))
      obtain ⟨⟨a3, Q3⟩, p3, _⟩ := t3
      have hl3 : es3.length = n + 1 := by rw [p3.length_eq, hl2]
      have HP3 := Lib.hid (HP.out es3 a3 w3 Q3 hl3)
      clear HU2 Q3 f3 p3
      go_wp2_with fail
      (with_reducible refine HP3.out.mono ?_)
      rintro e w4 ⟨⟨v, rfl⟩, k1, k2⟩
      have HE := Lib.hid (HO.out es3 a3 w3 w4 HT3.out HF3.out k1 k2)
      clear k1 k2
      go_wp2_with fail
      go_ret
      exact ⟨⟨_, rfl⟩, HE.out⟩
    · have HP3 := Lib.hid (HP.out es2 a2 w2 Q2 hl2)
      clear Q2
      go_wp2_with fail
      (with_reducible refine HP3.out.mono ?_)
      rintro e w4 ⟨⟨v, rfl⟩, k1, k2⟩
      have HE := Lib.hid (HO.out es2 a2 w2 w4 HT2.out HF2.out k1 k2)
      clear k1 k2
      go_wp2_with fail
      go_ret
      exact ⟨⟨_, rfl⟩, HE.out⟩
end Go.Proofs.Ytacncbojplmcjaa
end

section
namespace Go.Proofs.Ytacncbojplmcjaa
open Go.ChangeShapes Go.WideShapes Go.ChangeAt Go.RowKit Go.Joins
set_option linter.unusedVariables false

/-- A queue of just those equations that have an open unknown. -/
def Qi (w : World) (q : QP) (m : Nat) (op : Nat → Nat) : Prop := ∃ es at_, Qm w q m es at_ op ∧ ∀ e, e ∈ es ↔ e < m ∧ 0 < op e
theorem Qi.fr {X : Nat → Prop} {w w' : World} {q : QP} {m : Nat} {op : Nat → Nat} (h : Qi w q m op) (k : Fr X w w') (hx : ∀ b, q.X b → ¬ X b) : Qi w' q m op := by
  obtain ⟨es, at_, h1, h2⟩ := h
  exact ⟨es, at_, h1.fr k hx, h2⟩

/-- The number of an equation's open unknowns is written. -/
theorem Qm.open {w : World} {q : QP} {m : Nat} {es : List Nat} {at_ op : Nat → Nat} (h : Qm w q m es at_ op) {e : Nat} (he : e < m) (o : Nat) (ho : o ≤ 1000000) :
    Qm (w.setCell ⟨q.ob, e, none⟩ (.int .i64 (o : Int))) q m es at_ (upd op e o) := by
  refine ⟨(Below.heap_setCell _ _ _ _ h.d2).trans h.head, ?_, h.len, h.most, h.short, h.arow.other (C := q.ob) h.d3, ?_, h.d1, h.d2, h.d3, h.low, h.nd, h.pos, h.few, ?_⟩
  · rcases h.here with h1 | ⟨h1, h2, h3, h4, h5⟩
    · exact .inl h1
    · exact .inr ⟨h1, h2.other (C := q.ob) h5, h3, h4, h5⟩
  · refine h.orow.set_eq e he _ fun j hj => ?_
    unfold nV upd
    split <;> rfl
  · intro x
    unfold upd
    split
    · exact ho
    · exact h.opb x

theorem upd_same (f : Nat → Nat) (a b : Nat) : upd f a b a = b := by simp [upd]
theorem upd_far (f : Nat → Nat) {a b x : Nat} (h : x ≠ a) : upd f a b x = f x := by simp [upd, h]

set_option maxRecDepth 100000 in
set_option maxHeartbeats 2000000 in
theorem lessen_any (q : QP) (m : Nat) (op : Nat → Nat) (w : World) (h : Qi w q m op) (e : Nat) (he : e < m) (h0 : 0 < op e) :
    Calls Try.prog 33 #[.pointer (some ⟨q.qb, 0, none⟩), .int .i64 (e : Int)] w fun r w' => r = .returned (.tuple #[]) ∧ Qi w' q m (upd op e (op e - 1)) ∧ Fr q.X w w' := by
  obtain ⟨es, at_, h1, h2⟩ := h
  obtain ⟨i, hi, hei⟩ := List.getElem_of_mem ((h2 e).2 ⟨he, h0⟩)
  obtain ⟨o, ho⟩ : ∃ o, op e = o + 1 := ⟨op e - 1, by omega⟩
  have ho2 : op e - 1 = o := by omega
  have hob := h1.opb e
  have hm := h1.few
  have Q1 := h1.open he o (by omega)
  rw [ho2]
  obtain ⟨c0, c1, c2⟩ := h1.cells
  obtain ⟨C0, C1, C2⟩ := Q1.cells
  have y1 := h1.orow.cell e he
  have z1 := h1.orow.loose e
  have Y1 := Q1.orow.cell e he
  have X1 := Q1.arow.cell e he
  unfold nV at y1 Y1 X1
  rw [ho] at y1
  rw [upd_same] at Y1
  have hat : at_ e = i := by rw [← hei]; exact h1.pos i hi
  rw [hat] at X1
  have hez : (e : Int) < (m : Int) := by omega
  have hoz : ((o + 1 : Nat) : Int) - 1 = (o : Int) := by omega
  have hob2 : o ≤ 1000000 := by omega
  have HF1 : Hid (Fr q.X w (w.setCell ⟨q.ob, e, none⟩ (.int .i64 (o : Int)))) := (Fr.refl _ _).set (p := ⟨q.ob, e, none⟩) (fun _ => .inr (.inr (.inl rfl))) _
  have d2 : q.ob ≠ q.qb := Ne.symm h1.d2
  by_cases o0 : o = 0
  · have HR := Lib.hid (remove_any q m es at_ (upd op e o) _ Q1 i hi)
    have HM : Hid (∀ es' : List Nat, (es' ++ [e]).Perm es → ∀ x, x ∈ es' ↔ x < m ∧ 0 < upd op e o x) := fun es' hp x => by
      have hnd : (es' ++ [e]).Nodup := hp.nodup_iff.2 h1.nd
      rw [List.nodup_append] at hnd
      by_cases hx : x = e
      · subst hx
        rw [upd_same]
        exact ⟨fun hx => absurd rfl (hnd.2.2 x hx x (by simp)), fun hx => by omega⟩
      · rw [upd_far _ hx, ← h2 x, ← hp.mem_iff]
        simp [hx]
    rw [hei] at HR
    have hz : ((o : Int) == 0) = true := by subst o0; rfl
    clear h1 h2 Q1 hat ho ho2 hob h0 o0 hei he
    go_enter Try.func33, Try.ntmps33
    go_wp2_with fail
    (with_reducible refine HR.out.mono ?_)
    rintro r w2 ⟨⟨v, rfl⟩, es', at2, k1, k2, k3⟩
    have HQ : Hid (Qi w2 q m (upd op e o)) := ⟨es', at2, k1, HM.out es' k2⟩
    have HF2 := Lib.hid (HF1.out.trans k3)
    clear k1 k2 k3
    go_wp2_with fail
    refine bodyPost_ret (results_none rfl _ _ _) rfl ?_
    exact ⟨rfl, HQ.out, HF2.out⟩
  · have HR := Lib.hid (fix_any q m es at_ (upd op e o) _ Q1 i hi)
    have HM : Hid (∀ es' : List Nat, es'.Perm es → ∀ x, x ∈ es' ↔ x < m ∧ 0 < upd op e o x) := fun es' hp x => by
      rw [hp.mem_iff, h2]
      by_cases hx : x = e
      · subst hx
        rw [upd_same]
        exact ⟨fun hx => ⟨hx.1, by omega⟩, fun hx => ⟨hx.1, by omega⟩⟩
      · rw [upd_far _ hx]
    have hz : ((o : Int) == 0) = false := by simp; omega
    clear h1 h2 Q1 hat ho ho2 hob h0 o0 hei he
    go_enter Try.func33, Try.ntmps33
    go_wp2_with fail
    (with_reducible refine HR.out.mono ?_)
    rintro r w2 ⟨rfl, es', ⟨at2, k1⟩, k2, k3⟩
    have HQ : Hid (Qi w2 q m (upd op e o)) := ⟨es', at2, k1, HM.out es' k2⟩
    have HF2 := Lib.hid (HF1.out.trans k3)
    clear k1 k2 k3
    go_wp2_with fail
    go_end0
    exact ⟨rfl, HQ.out, HF2.out⟩
end Go.Proofs.Ytacncbojplmcjaa
end
