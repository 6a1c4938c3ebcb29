/-
  A heap of equations: how it lies in memory; Len, Less.
-/
import Derived.Test.YticppgopblgkbaaPeelA
import Derived.Laws.AppendOwn
namespace Go.Proofs.Yticppgopblgkbaa
open Go.ChangeShapes Go.WideShapes Go.ChangeAt Go.RowKit Go.Joins
set_option linter.unusedVariables false

def nV (f : Nat → Nat) (j : Nat) : Value := .int .i64 (f j : Int)
def lV (l : List Nat) (j : Nat) : Value := .int .i64 ((l.getD j 0 : Nat) : Int)

/-- Where a queue lies: its struct, its row of equations (an address, a block, a capacity), and the two other rows. -/
structure QP where
  qb : Nat
  ea : Option Addr
  eb : Nat
  cap : Nat
  ab : Nat
  ob : Nat

/-- The blocks of a queue. -/
def QP.X (q : QP) (b : Nat) : Prop := b = q.qb ∨ b = q.ab ∨ b = q.ob ∨ b = q.eb

/-- A queue of m equations in memory: es in a row, at tells the place of each, op its open ones. -/
structure Qm (w : World) (q : QP) (m : Nat) (es : List Nat) (at_ op : Nat → Nat) : Prop where
  head : w.heap[q.qb]? = some (.cells #[.slice q.ea es.length q.cap, .slice (some ⟨q.ab, 0, none⟩) m m, .slice (some ⟨q.ob, 0, none⟩) m m] 47 (0, 0))
  here : (es = [] ∧ q.cap = 0 ∧ q.ea = none) ∨ (q.ea = some ⟨q.eb, 0, none⟩ ∧ Row w q.eb 3 q.cap es.length (lV es) ∧ q.eb ≠ q.qb ∧ q.eb ≠ q.ab ∧ q.eb ≠ q.ob)
  len : es.length ≤ q.cap
  most : q.cap ≤ maxLen
  short : es.length ≤ m
  arow : Row w q.ab 3 m m (nV at_)
  orow : Row w q.ob 3 m m (nV op)
  d1 : q.qb ≠ q.ab
  d2 : q.qb ≠ q.ob
  d3 : q.ab ≠ q.ob
  low : ∀ e ∈ es, e < m
  nd : es.Nodup
  pos : ∀ i (h : i < es.length), at_ es[i] = i
  few : m ≤ 1000
  opb : ∀ e, op e ≤ 1000000

theorem lV_get {l : List Nat} {j : Nat} (h : j < l.length) : lV l j = .int .i64 ((l[j] : Nat) : Int) := by simp [lV, List.getD, h]
theorem Qm.lt {w : World} {q : QP} {m : Nat} {es : List Nat} {at_ op : Nat → Nat} (h : Qm w q m es at_ op) : q.qb < w.heap.size := (Array.getElem?_eq_some_iff.1 h.head).1
theorem Qm.cells {w : World} {q : QP} {m : Nat} {es : List Nat} {at_ op : Nat → Nat} (h : Qm w q m es at_ op) :
    w.cell? ⟨q.qb, 0, none⟩ = some (.slice q.ea es.length q.cap) ∧ w.cell? ⟨q.qb, 1, none⟩ = some (.slice (some ⟨q.ab, 0, none⟩) m m) ∧ w.cell? ⟨q.qb, 2, none⟩ = some (.slice (some ⟨q.ob, 0, none⟩) m m) := by
  refine ⟨?_, ?_, ?_⟩ <;> rw [cell_of_block h.head] <;> rfl
theorem Qm.some {w : World} {q : QP} {m : Nat} {es : List Nat} {at_ op : Nat → Nat} (h : Qm w q m es at_ op) {i : Nat} (hi : i < es.length) :
    q.ea = Option.some ⟨q.eb, 0, none⟩ ∧ w.cell? ⟨q.eb, i, none⟩ = Option.some (.int .i64 ((es[i] : Nat) : Int)) := by
  rcases h.here with ⟨rfl, _⟩ | ⟨h1, h2, _⟩
  · simp at hi
  · exact ⟨h1, by rw [h2.cell i hi, lV_get hi]⟩
theorem Qm.fr {X : Nat → Prop} {w w' : World} {q : QP} {m : Nat} {es : List Nat} {at_ op : Nat → Nat} (h : Qm w q m es at_ op) (k : Fr X w w') (hx : ∀ b, q.X b → ¬ X b) : Qm w' q m es at_ op := by
  have keep : ∀ {b n k : Nat} {g : Nat → Value}, q.X b → Row w b 3 n k g → Row w' b 3 n k g := fun {b n j g} hb ⟨cs, h1, h2, h3⟩ => ⟨cs, (k.block b (Array.getElem?_eq_some_iff.1 h1).1 (hx b hb)).trans h1, h2, h3⟩
  refine ⟨(k.block q.qb h.lt (hx _ (.inl rfl))).trans h.head, ?_, h.len, h.most, h.short, keep (.inr (.inl rfl)) h.arow, keep (.inr (.inr (.inl rfl))) h.orow, h.d1, h.d2, h.d3, h.low, h.nd, h.pos, h.few, h.opb⟩
  rcases h.here with e | ⟨h1, h2, h3⟩
  · exact .inl e
  · exact .inr ⟨h1, keep (.inr (.inr (.inr rfl))) h2, h3⟩

theorem meth_len (b : Nat) (w : World) : (method 207 43 (.pointer (some ⟨b, 0, none⟩)) "Len").run Try.prog w = .ok (14, .pointer (some ⟨b, 0, none⟩)) w := by kernel_rfl
theorem meth_less (b : Nat) (w : World) : (method 207 43 (.pointer (some ⟨b, 0, none⟩)) "Less").run Try.prog w = .ok (63, .pointer (some ⟨b, 0, none⟩)) w := by kernel_rfl
theorem meth_swap (b : Nat) (w : World) : (method 207 43 (.pointer (some ⟨b, 0, none⟩)) "Swap").run Try.prog w = .ok (66, .pointer (some ⟨b, 0, none⟩)) w := by kernel_rfl
theorem meth_push (b : Nat) (w : World) : (method 207 43 (.pointer (some ⟨b, 0, none⟩)) "Push").run Try.prog w = .ok (65, .pointer (some ⟨b, 0, none⟩)) w := by kernel_rfl
theorem meth_pop (b : Nat) (w : World) : (method 207 43 (.pointer (some ⟨b, 0, none⟩)) "Pop").run Try.prog w = .ok (64, .pointer (some ⟨b, 0, none⟩)) w := by kernel_rfl

theorem len_any (q : QP) (m : Nat) (es : List Nat) (at_ op : Nat → Nat) (w : World) (h : Qm w q m es at_ op) :
    Calls Try.prog 14 #[.pointer (some ⟨q.qb, 0, none⟩)] w fun e w' => e = .returned (.int .i64 (es.length : Int)) ∧ w = w' := by
  obtain ⟨c0, _, _⟩ := h.cells
  have hlm := h.short
  have hmf := h.few
  go_enter Try.func14, Try.ntmps14
  go_wp2_with fail
  go_ret
  exact ⟨rfl, rfl⟩

theorem fr_drawn {X : Nat → Prop} {a w : World} {q : Nat} (h : Fr X a w) : Fr X a (w.drewN q) := ⟨h.os, h.tape, h.output, h.size, h.block⟩
set_option maxRecDepth 100000 in
set_option maxHeartbeats 1000000 in
theorem less_any (q : QP) (m : Nat) (es : List Nat) (at_ op : Nat → Nat) (w : World) (h : Qm w q m es at_ op) (i j : Nat) (hi : i < es.length) (hj : j < es.length) :
    Calls Try.prog 63 #[.pointer (some ⟨q.qb, 0, none⟩), .int .i64 (i : Int), .int .i64 (j : Int)] w fun e w' => (∃ b : Bool, e = .returned (.bool b)) ∧ Fr (fun _ => False) w w' := by
  obtain ⟨c0, c1, c2⟩ := h.cells
  obtain ⟨e1, x1⟩ := h.some hi
  obtain ⟨_, x2⟩ := h.some hj
  have l1 := h.low _ (List.getElem_mem hi)
  have l2 := h.low _ (List.getElem_mem hj)
  have y1 := h.orow.cell _ l1
  have y2 := h.orow.cell _ l2
  have o1 := h.opb es[i]
  have o2 := h.opb es[j]
  have hlm := h.short
  have hmf := h.few
  have hcm := h.most
  have hcl := h.len
  have hm := h.few
  unfold nV at y1 y2
  rw [e1] at c0
  obtain ⟨a, ha⟩ : ∃ a, a = es[i] := ⟨_, rfl⟩
  obtain ⟨b, hb⟩ : ∃ a, a = es[j] := ⟨_, rfl⟩
  rw [← ha] at x1 y1 l1 o1
  rw [← hb] at x2 y2 l2 o2
  generalize op a = p at *
  generalize op b = r at *
  have l1z : (a : Int) < (m : Int) := by omega
  have l2z : (b : Int) < (m : Int) := by omega
  have i1z : (i : Int) < (es.length : Int) := by omega
  have j1z : (j : Int) < (es.length : Int) := by omega
  clear ha hb h
  by_cases hpr : p = r
  · have hn : ((p : Int) != (r : Int)) = false := by subst hpr; simp
    go_enter Try.func63, Try.ntmps63
    go_wp2_with fail
    go_quiet (fail)
    go_wp2_with fail
    go_quiet (fail)
    go_wp2_with fail
    go_ret
    exact ⟨⟨_, rfl⟩, by (repeat apply fr_drawn); exact Fr.refl _ _⟩
  · have hn : ((p : Int) != (r : Int)) = true := by simp; omega
    go_enter Try.func63, Try.ntmps63
    go_wp2_with fail
    go_quiet (fail)
    go_wp2_with fail
    go_quiet (fail)
    go_wp2_with fail
    go_quiet (fail)
    go_wp2_with fail
    go_ret
    exact ⟨⟨_, rfl⟩, by (repeat apply fr_drawn); exact Fr.refl _ _⟩
end Go.Proofs.Yticppgopblgkbaa
