/-
  A heap of equations: one is put in.
-/
import Derived.Test.YticppgopblgkbaaQuG
import Derived.OwnWalk
import Derived.Maps.AppendAt
namespace Go.Proofs.Yticppgopblgkbaa
open Go.ChangeShapes Go.WideShapes Go.ChangeAt Go.RowKit Go.Joins
set_option linter.unusedVariables false

def encN (l : List Nat) : List Value := l.map fun n : Nat => Value.int .i64 (n : Int)
theorem infoI : (Try.prog.info? 3).map (fun i => (i.zero, i.size, i.bytes)) = some (some (.int .i64 0), 1, 8) := by kernel_rfl
theorem info_q {z : Value} {s b : Nat} {t : TypeId} (h : (Try.prog.info? t).map (fun i => (i.zero, i.size, i.bytes)) = some (some z, s, b)) : ∃ i, Try.prog.info? t = some i ∧ i.zero = some z ∧ i.size = s ∧ i.bytes = b := by
  cases hi : Try.prog.info? t with
  | none => rw [hi] at h; cases h
  | some i =>
    rw [hi] at h
    simp only [Option.map_some, Option.some.injEq, Prod.mk.injEq] at h
    exact ⟨i, rfl, h.1, h.2.1, h.2.2⟩
theorem one_here {w : World} {g : Nat} {u : Value} (h : w.cell? ⟨g, 0, none⟩ = some u) : ∀ j x, [u][j]? = some x → w.cell? ((⟨g, 0, none⟩ : Addr).add j) = some x := fun j x hx => by
  match j, hx with
  | 0, hx => simp at hx; subst hx; simpa [Addr.add] using h

/-- The row of a queue as a row that append takes. -/
theorem Qm.owns {w : World} {q : QP} {m : Nat} {es : List Nat} {at_ op : Nat → Nat} (h : Qm w q m es at_ op) : w.ownsRow 0 3 1 (.slice q.ea es.length q.cap) es.length (encN es) := by
  refine ⟨by simp [encN], ?_⟩
  rcases h.here with ⟨rfl, h2, h3⟩ | ⟨h1, h2, h3⟩
  · exact .inl ⟨by rw [h2, h3]; rfl, rfl⟩
  · obtain ⟨cs, k1, k2, k3⟩ := h2
    refine .inr ⟨q.eb, q.cap, cs, by rw [h1], Nat.zero_le _, k1, h.len, h.most, by omega, ?_⟩
    have hl := h.len
    apply List.ext_getElem?
    intro j
    by_cases hj : j < es.length
    · have h3 := k3 j hj
      rw [lV_get hj] at h3
      have hjc : j < cs.size := by omega
      simp [encN, hj, Array.getElem?_eq_getElem hjc] at h3 ⊢
      exact h3
    · simp [encN, hj]; omega
theorem row_of_owns {w : World} {v : Value} {l : List Nat} (hl : l ≠ []) (h : w.ownsRow 0 3 1 v l.length (encN l)) :
    ∃ g cap, v = .slice (some ⟨g, 0, none⟩) l.length cap ∧ Row w g 3 cap l.length (lV l) ∧ l.length ≤ cap ∧ cap ≤ maxLen ∧ g < w.heap.size := by
  rcases h.2 with ⟨_, h0⟩ | ⟨g, cap, cur, hv, _, hh, h1, h2, h3, h4⟩
  · exact absurd (List.eq_nil_of_length_eq_zero h0) hl
  · refine ⟨g, cap, hv, ⟨cur, hh, by omega, fun j hj => ?_⟩, h1, h2, (Array.getElem?_eq_some_iff.1 hh).1⟩
    rw [lV_get hj]
    have := congrArg (fun x => x[j]?) h4
    simp only [encN, List.getElem?_map] at this
    rw [List.getElem?_take, if_pos (by omega)] at this
    simpa [hj] using this

/-- A row of numbers that is made by append. -/
def OwnN (B : Nat) (w : World) (v : Value) (l : List Nat) : Prop := w.ownsRow B 3 1 v l.length (encN l)
theorem OwnN.nil (B : Nat) (w : World) : OwnN B w (.slice none 0 0) [] := World.ownsRow_nil _ _ _ _
theorem wpList_push_n {ops : Array Oper} {rest : List Oper} {o : Oper} {a : Act} {Q : Exit → Act → World → Prop} (w : World) (hgd : o.guard = none) (s x : Operand)
    (ho : o.op = .call { callee := .builtin .append, args := #[s, x], argTypes := #[27, 27] })
    (B : Nat) (v : Value) (l : List Nat) (hs : a.eval s = v) (hown : OwnN B w v l) (g : Nat) (hx : a.eval x = .slice (some ⟨g, 0, none⟩) 1 1)
    (n : Nat) (hcell : w.cell? ⟨g, 0, none⟩ = some (.int .i64 (n : Int))) (hB : B ≤ w.heap.size) (hlen : l.length ≤ 1000000)
    (h : ∀ v' w', Hid (OwnN B w' v' (l ++ [n])) → Hid (w.grownBy w' v.ownBlock) → Hid (v'.ownBlock = v.ownBlock ∨ v'.ownBlock = some w.heap.size) → wpList Try.prog ops Q rest (a.put o.dst v') w') : wpList Try.prog ops Q (o :: rest) a w := by
  obtain ⟨i0, hi, hz0, hz1, hz2⟩ := info_q infoI
  refine wpList_append_own_at w hgd s x 27 ho B 3 i0 (.int .i64 0) 1 8 Try.underlying27 hi hz0 hz1 hz2 rfl (by decide) v l.length _ hs hown ⟨g, 0, none⟩ 1 1 [.int .i64 (n : Int)] hx rfl (one_here hcell) (by simp [Value.oneCell']) (by unfold maxLen; omega) (by omega) hB ?_
  intro v' w' h1 h2 _ h5
  refine h v' w' ?_ h2 h5
  show OwnN B w' v' (l ++ [n])
  unfold OwnN
  rw [List.length_append]
  simpa [encN] using h1

/-- The place of an equation that isn't in the queue is written. -/
theorem Qm.place {w : World} {q : QP} {m : Nat} {es : List Nat} {at_ op : Nat → Nat} (h : Qm w q m es at_ op) {e : Nat} (he : e < m) (hn : e ∉ es) (i : Nat) :
    Qm (w.setCell ⟨q.ab, e, none⟩ (.int .i64 (i : Int))) q m es (upd at_ e i) op := by
  refine ⟨(Below.heap_setCell _ _ _ _ h.d1).trans h.head, ?_, h.len, h.most, h.short, ?_, h.orow.other (C := q.ab) (Ne.symm h.d3), h.d1, h.d2, h.d3, h.low, h.nd, ?_, h.few, h.opb⟩
  · rcases h.here with h1 | ⟨h1, h2, h3, h4, h5⟩
    · exact .inl h1
    · exact .inr ⟨h1, h2.other (C := q.ab) h4, h3, h4, h5⟩
  · refine h.arow.set_eq e he _ fun j hj => ?_
    unfold nV upd
    split <;> rfl
  · intro j hj
    rw [upd_far _ fun e' => hn (by rw [← e']; exact List.getElem_mem hj)]
    exact h.pos j hj

/-- Where a queue lies behind a push. -/
def QP.to (q : QP) (g cap : Nat) : QP := { q with ea := some ⟨g, 0, none⟩, eb := g, cap := cap }
/-- The row has grown by one equation, and the queue's struct tells the new row. -/
theorem qm_push {w w' : World} {q : QP} {m : Nat} {es : List Nat} {at_ op : Nat → Nat} (h : Qm w q m es at_ op) {e : Nat} (he : e < m) (hn : e ∉ es) (hat : at_ e = es.length) (hs : es.length < m) {v : Value}
    (h1 : OwnN 0 w' v (es ++ [e])) (h2 : w.grownBy w' (Value.ownBlock (.slice q.ea es.length q.cap))) (h5 : v.ownBlock = Value.ownBlock (.slice q.ea es.length q.cap) ∨ v.ownBlock = some w.heap.size) :
    ∃ g cap, v = .slice (some ⟨g, 0, none⟩) (es.length + 1) cap ∧ Qm (w'.setCell ⟨q.qb, 0, none⟩ v) (q.to g cap) m (es ++ [e]) at_ op ∧ Fr q.X w (w'.setCell ⟨q.qb, 0, none⟩ v) ∧ (g = q.eb ∨ g = w.heap.size) := by
  obtain ⟨g, cap, hv, hrow, hl, hc, hg⟩ := row_of_owns (by simp) h1
  have hll : (es ++ [e]).length = es.length + 1 := by simp
  rw [hll] at hv hl
  -- which block the old row has
  have hold : ∀ b, Value.ownBlock (.slice q.ea es.length q.cap) = some b → b = q.eb ∧ q.eb ≠ q.qb ∧ q.eb ≠ q.ab ∧ q.eb ≠ q.ob := fun b hb => by
    rcases h.here with ⟨_, _, k3⟩ | ⟨k1, _, k3⟩
    · rw [k3] at hb; cases hb
    · rw [k1] at hb; cases hb; exact ⟨rfl, k3⟩
  have hgb : v.ownBlock = some g := by rw [hv]; rfl
  have hge : (g = q.eb ∧ q.eb ≠ q.qb ∧ q.eb ≠ q.ab ∧ q.eb ≠ q.ob) ∨ g = w.heap.size := by
    rcases h5 with h5 | h5
    · exact .inl (hold g (h5.symm.trans hgb))
    · exact .inr (by rw [hgb] at h5; exact Option.some.inj h5)
  have la := h.arow.lt
  have lo := h.orow.lt
  have lq := h.lt
  have ng : g ≠ q.qb ∧ g ≠ q.ab ∧ g ≠ q.ob := by
    rcases hge with ⟨e1, k⟩ | e1
    · rw [e1]; exact k
    · omega
  have keep : ∀ b, b < w.heap.size → (b = q.qb ∨ b = q.ab ∨ b = q.ob) → w'.heap[b]? = w.heap[b]? := fun b hb hx => h2.block b hb fun e1 => by
    obtain ⟨e2, k1, k2, k3⟩ := hold b e1.symm
    subst e2
    rcases hx with hx | hx | hx
    · exact k1 hx
    · exact k2 hx
    · exact k3 hx
  have keepR : ∀ {b n k : Nat} {f : Nat → Value}, (b = q.qb ∨ b = q.ab ∨ b = q.ob) → Row w b 3 n k f → Row w' b 3 n k f := fun {b n k f} hx ⟨cs, r1, r2, r3⟩ => ⟨cs, (keep b (Array.getElem?_eq_some_iff.1 r1).1 hx).trans r1, r2, r3⟩
  refine ⟨g, cap, hv, ⟨?_, .inr ⟨rfl, hrow.other (C := q.qb) ng.1, ng.1, ng.2.1, ng.2.2⟩, ?_, hc, ?_, (keepR (.inr (.inl rfl)) h.arow).other (C := q.qb) (Ne.symm h.d1), (keepR (.inr (.inr rfl)) h.orow).other (C := q.qb) (Ne.symm h.d2), h.d1, h.d2, h.d3, ?_, ?_, ?_, h.few, h.opb⟩, ?_, ?_⟩
  · have := block_setCell (i := 0) ((keep q.qb lq (.inl rfl)).trans h.head) v
    show (w'.setCell ⟨q.qb, 0, none⟩ v).heap[q.qb]? = _
    rw [this, hv, hll]
    rfl
  · rw [hll]; exact hl
  · rw [hll]; omega
  · intro x hx
    rcases List.mem_append.1 hx with hx | hx
    · exact h.low x hx
    · obtain rfl : x = e := by simpa using hx
      exact he
  · rw [List.nodup_append]
    refine ⟨h.nd, by simp, fun x hx y hy e1 => ?_⟩
    obtain rfl : y = e := by simpa using hy
    exact hn (e1 ▸ hx)
  · intro i hi
    by_cases hie : i < es.length
    · rw [List.getElem_append_left hie]; exact h.pos i hie
    · obtain rfl : i = es.length := by rw [hll] at hi; omega
      rw [List.getElem_append_right (Nat.le_refl _)]
      simpa using hat
  · refine Fr.set (Fr.of_grown h2 fun b hb => ?_) (p := ⟨q.qb, 0, none⟩) (fun _ => .inl rfl) _
    exact .inr (.inr (.inr (hold b hb).1))
  · rcases hge with ⟨e1, _⟩ | e1
    · exact .inl e1
    · exact .inr e1
end Go.Proofs.Yticppgopblgkbaa
