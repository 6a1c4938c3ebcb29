/-
  A heap of equations: one is put in.
  A heap of equations: Push, container/heap's Push.
  A heap of equations: a new one.
  As GrowT, where forced operations stand behind the last one that writes freely. Nothing of the program's dump is named here.
-/
import Derived.Test.YtacncbojplmcjaaMg10
import Derived.OwnWalk
import Derived.Maps.AppendAt
import Derived.BigRegion
section
namespace Go.Proofs.Ytacncbojplmcjaa
open Go.ChangeShapes Go.WideShapes Go.ChangeAt Go.RowKit Go.Joins
set_option linter.unusedVariables false

def encN (l : List Nat) : List Value := l.map fun n : Nat => Value.int .i64 (n : Int)
theorem infoN : (Try.prog.info? 3).map (fun i => (i.zero, i.size, i.bytes)) = some (some (.int .i64 0), 1, 8) := by kernel_rfl
theorem info_q {z : Value} {s b : Nat} {t : TypeId} (h : (Try.prog.info? t).map (fun i => (i.zero, i.size, i.bytes)) = some (some z, s, b)) : ∃ i, Try.prog.info? t = some i ∧ i.zero = some z ∧ i.size = s ∧ i.bytes = b := by
  cases hi : Try.prog.info? t with
  | none => rw [hi] at h; cases h
  | some i =>
    rw [hi] at h
    simp only [Option.map_some, Option.some.injEq, Prod.mk.injEq] at h
    exact ⟨i, rfl, h.1, h.2.1, h.2.2⟩
theorem one_here {w : World} {g : Nat} {u : Value} (h : w.cell? ⟨g, 0, none⟩ = some u) : ∀ j x, [u][j]? = some x → w.cell? ((⟨g, 0, none⟩ : Addr).add j) = some x := fun j x hx => by
  match j, hx with
  | 0, hx => simp at hx; subst hx; simpa [Addr.add] using h

/-- The row of a queue as a row that append takes. -/
theorem Qm.owns {w : World} {q : QP} {m : Nat} {es : List Nat} {at_ op : Nat → Nat} (h : Qm w q m es at_ op) : w.ownsRow 0 3 1 (.slice q.ea es.length q.cap) es.length (encN es) := by
  refine ⟨by simp [encN], ?_⟩
  rcases h.here with ⟨rfl, h2, h3⟩ | ⟨h1, h2, h3⟩
  · exact .inl ⟨by rw [h2, h3]; rfl, rfl⟩
  · obtain ⟨cs, k1, k2, k3⟩ := h2
    refine .inr ⟨q.eb, q.cap, cs, by rw [h1], Nat.zero_le _, k1, h.len, h.most, by omega, ?_⟩
    have hl := h.len
    apply List.ext_getElem?
    intro j
    by_cases hj : j < es.length
    · have h3 := k3 j hj
      rw [lV_get hj] at h3
      have hjc : j < cs.size := by omega
      simp [encN, hj, Array.getElem?_eq_getElem hjc] at h3 ⊢
      exact h3
    · simp [encN, hj]; omega
theorem row_of_owns {w : World} {v : Value} {l : List Nat} (hl : l ≠ []) (h : w.ownsRow 0 3 1 v l.length (encN l)) :
    ∃ g cap, v = .slice (some ⟨g, 0, none⟩) l.length cap ∧ Row w g 3 cap l.length (lV l) ∧ l.length ≤ cap ∧ cap ≤ maxLen ∧ g < w.heap.size := by
  rcases h.2 with ⟨_, h0⟩ | ⟨g, cap, cur, hv, _, hh, h1, h2, h3, h4⟩
  · exact absurd (List.eq_nil_of_length_eq_zero h0) hl
  · refine ⟨g, cap, hv, ⟨cur, hh, by omega, fun j hj => ?_⟩, h1, h2, (Array.getElem?_eq_some_iff.1 hh).1⟩
    rw [lV_get hj]
    have := congrArg (fun x => x[j]?) h4
    simp only [encN, List.getElem?_map] at this
    rw [List.getElem?_take, if_pos (by omega)] at this
    simpa [hj] using this

/-- A row of numbers that is made by append. -/
def OwnN (B : Nat) (w : World) (v : Value) (l : List Nat) : Prop := w.ownsRow B 3 1 v l.length (encN l)
theorem OwnN.nil (B : Nat) (w : World) : OwnN B w (.slice none 0 0) [] := World.ownsRow_nil _ _ _ _
theorem wpList_push_n {ops : Array Oper} {rest : List Oper} {o : Oper} {a : Act} {Q : Exit → Act → World → Prop} (w : World) (hgd : o.guard = none) (s x : Operand)
    (ho : o.op = .call { callee := .builtin .append, args := #[s, x], argTypes := #[29, 29] })
    (B : Nat) (v : Value) (l : List Nat) (hs : a.eval s = v) (hown : OwnN B w v l) (g : Nat) (hx : a.eval x = .slice (some ⟨g, 0, none⟩) 1 1)
    (n : Nat) (hcell : w.cell? ⟨g, 0, none⟩ = some (.int .i64 (n : Int))) (hB : B ≤ w.heap.size) (hlen : l.length ≤ 1000000)
    (h : ∀ v' w', Hid (OwnN B w' v' (l ++ [n])) → Hid (w.grownBy w' v.ownBlock) → Hid (v'.ownBlock = v.ownBlock ∨ v'.ownBlock = some w.heap.size) → wpList Try.prog ops Q rest (a.put o.dst v') w') : wpList Try.prog ops Q (o :: rest) a w := by
  obtain ⟨i0, hi, hz0, hz1, hz2⟩ := info_q infoN
  refine wpList_append_own_at w hgd s x 29 ho B 3 i0 (.int .i64 0) 1 8 Try.underlying29 hi hz0 hz1 hz2 rfl (by decide) v l.length _ hs hown ⟨g, 0, none⟩ 1 1 [.int .i64 (n : Int)] hx rfl (one_here hcell) (by simp [Value.oneCell']) (by unfold maxLen; omega) (by omega) hB ?_
  intro v' w' h1 h2 _ h5
  refine h v' w' ?_ h2 h5
  show OwnN B w' v' (l ++ [n])
  unfold OwnN
  rw [List.length_append]
  simpa [encN] using h1

/-- The place of an equation that isn't in the queue is written. -/
theorem Qm.place {w : World} {q : QP} {m : Nat} {es : List Nat} {at_ op : Nat → Nat} (h : Qm w q m es at_ op) {e : Nat} (he : e < m) (hn : e ∉ es) (i : Nat) :
    Qm (w.setCell ⟨q.ab, e, none⟩ (.int .i64 (i : Int))) q m es (upd at_ e i) op := by
  refine ⟨(Below.heap_setCell _ _ _ _ h.d1).trans h.head, ?_, h.len, h.most, h.short, ?_, h.orow.other (C := q.ab) (Ne.symm h.d3), h.d1, h.d2, h.d3, h.low, h.nd, ?_, h.few, h.opb⟩
  · rcases h.here with h1 | ⟨h1, h2, h3, h4, h5⟩
    · exact .inl h1
    · exact .inr ⟨h1, h2.other (C := q.ab) h4, h3, h4, h5⟩
  · refine h.arow.set_eq e he _ fun j hj => ?_
    unfold nV upd
    split <;> rfl
  · intro j hj
    rw [upd_far _ fun e' => hn (by rw [← e']; exact List.getElem_mem hj)]
    exact h.pos j hj

/-- Where a queue lies behind a push. -/
def QP.to (q : QP) (g cap : Nat) : QP := { q with ea := some ⟨g, 0, none⟩, eb := g, cap := cap }
/-- The row has grown by one equation, and the queue's struct tells the new row. -/
theorem qm_push {w w' : World} {q : QP} {m : Nat} {es : List Nat} {at_ op : Nat → Nat} (h : Qm w q m es at_ op) {e : Nat} (he : e < m) (hn : e ∉ es) (hat : at_ e = es.length) (hs : es.length < m) {v : Value}
    (h1 : OwnN 0 w' v (es ++ [e])) (h2 : w.grownBy w' (Value.ownBlock (.slice q.ea es.length q.cap))) (h5 : v.ownBlock = Value.ownBlock (.slice q.ea es.length q.cap) ∨ v.ownBlock = some w.heap.size) :
    ∃ g cap, v = .slice (some ⟨g, 0, none⟩) (es.length + 1) cap ∧ Qm (w'.setCell ⟨q.qb, 0, none⟩ v) (q.to g cap) m (es ++ [e]) at_ op ∧ Fr q.X w (w'.setCell ⟨q.qb, 0, none⟩ v) ∧ (g = q.eb ∨ g = w.heap.size) := by
  obtain ⟨g, cap, hv, hrow, hl, hc, hg⟩ := row_of_owns (by simp) h1
  have hll : (es ++ [e]).length = es.length + 1 := by simp
  rw [hll] at hv hl
  -- which block the old row has
  have hold : ∀ b, Value.ownBlock (.slice q.ea es.length q.cap) = some b → b = q.eb ∧ q.eb ≠ q.qb ∧ q.eb ≠ q.ab ∧ q.eb ≠ q.ob := fun b hb => by
    rcases h.here with ⟨_, _, k3⟩ | ⟨k1, _, k3⟩
    · rw [k3] at hb; cases hb
    · rw [k1] at hb; cases hb; exact ⟨rfl, k3⟩
  have hgb : v.ownBlock = some g := by rw [hv]; rfl
  have hge : (g = q.eb ∧ q.eb ≠ q.qb ∧ q.eb ≠ q.ab ∧ q.eb ≠ q.ob) ∨ g = w.heap.size := by
    rcases h5 with h5 | h5
    · exact .inl (hold g (h5.symm.trans hgb))
    · exact .inr (by rw [hgb] at h5; exact Option.some.inj h5)
  have la := h.arow.lt
  have lo := h.orow.lt
  have lq := h.lt
  have ng : g ≠ q.qb ∧ g ≠ q.ab ∧ g ≠ q.ob := by
    rcases hge with ⟨e1, k⟩ | e1
    · rw [e1]; exact k
    · omega
  have keep : ∀ b, b < w.heap.size → (b = q.qb ∨ b = q.ab ∨ b = q.ob) → w'.heap[b]? = w.heap[b]? := fun b hb hx => h2.block b hb fun e1 => by
    obtain ⟨e2, k1, k2, k3⟩ := hold b e1.symm
    subst e2
    rcases hx with hx | hx | hx
    · exact k1 hx
    · exact k2 hx
    · exact k3 hx
  have keepR : ∀ {b n k : Nat} {f : Nat → Value}, (b = q.qb ∨ b = q.ab ∨ b = q.ob) → Row w b 3 n k f → Row w' b 3 n k f := fun {b n k f} hx ⟨cs, r1, r2, r3⟩ => ⟨cs, (keep b (Array.getElem?_eq_some_iff.1 r1).1 hx).trans r1, r2, r3⟩
  refine ⟨g, cap, hv, ⟨?_, .inr ⟨rfl, hrow.other (C := q.qb) ng.1, ng.1, ng.2.1, ng.2.2⟩, ?_, hc, ?_, (keepR (.inr (.inl rfl)) h.arow).other (C := q.qb) (Ne.symm h.d1), (keepR (.inr (.inr rfl)) h.orow).other (C := q.qb) (Ne.symm h.d2), h.d1, h.d2, h.d3, ?_, ?_, ?_, h.few, h.opb⟩, ?_, ?_⟩
  · have := block_setCell (i := 0) ((keep q.qb lq (.inl rfl)).trans h.head) v
    show (w'.setCell ⟨q.qb, 0, none⟩ v).heap[q.qb]? = _
    rw [this, hv, hll]
    rfl
  · rw [hll]; exact hl
  · rw [hll]; omega
  · intro x hx
    rcases List.mem_append.1 hx with hx | hx
    · exact h.low x hx
    · obtain rfl : x = e := by simpa using hx
      exact he
  · rw [List.nodup_append]
    refine ⟨h.nd, by simp, fun x hx y hy e1 => ?_⟩
    obtain rfl : y = e := by simpa using hy
    exact hn (e1 ▸ hx)
  · intro i hi
    by_cases hie : i < es.length
    · rw [List.getElem_append_left hie]; exact h.pos i hie
    · obtain rfl : i = es.length := by rw [hll] at hi; omega
      rw [List.getElem_append_right (Nat.le_refl _)]
      simpa using hat
  · refine Fr.set (Fr.of_grown h2 fun b hb => ?_) (p := ⟨q.qb, 0, none⟩) (fun _ => .inl rfl) _
    exact .inr (.inr (.inr (hold b hb).1))
  · rcases hge with ⟨e1, _⟩ | e1
    · exact .inl e1
    · exact .inr e1
end Go.Proofs.Ytacncbojplmcjaa
end

section
namespace Go.Proofs.Ytacncbojplmcjaa
open Go.ChangeShapes Go.WideShapes Go.ChangeAt Go.RowKit Go.Joins
set_option linter.unusedVariables false

/-- An equation e is put into a queue. -/
def In (q : QP) (m : Nat) (op : Nat → Nat) (es : List Nat) (e : Nat) (w w' : World) : Prop :=
  ∃ g cap es' at_, Qm w' (q.to g cap) m es' at_ op ∧ es'.Perm (es ++ [e]) ∧ Fr (fun b => q.X b ∨ w.heap.size ≤ b) w w' ∧ (g = q.eb ∨ w.heap.size ≤ g)

theorem fr_drew {X : Nat → Prop} {a w : World} (h : Fr X a w) : Fr X a w.drew := ⟨h.os, h.tape, h.output, h.size, h.block⟩
theorem qm_grown {w w' : World} {q : QP} {m : Nat} {es : List Nat} {at_ op : Nat → Nat} (h : Qm w q m es at_ op) (h2 : w.grownBy w' (Value.ownBlock (.slice q.ea es.length q.cap))) :
    w'.cell? ⟨q.qb, 0, none⟩ = some (.slice q.ea es.length q.cap) ∧ w'.frozen? ⟨q.qb, 0, none⟩ = false := by
  have hh : w'.heap[q.qb]? = _ := (h2.block q.qb h.lt fun e1 => by
    rcases h.here with ⟨_, _, k3⟩ | ⟨k1, _, k3, _⟩
    · rw [k3] at e1; cases e1
    · rw [k1] at e1; injection e1 with e1; exact k3 e1.symm).trans h.head
  exact ⟨by rw [cell_of_block hh]; rfl, unfrozen_of_block hh 0⟩

set_option maxRecDepth 1000000 in
set_option maxHeartbeats 4000000 in
theorem push_any (q : QP) (m : Nat) (es : List Nat) (at_ op : Nat → Nat) (w : World) (h : Qm w q m es at_ op) (e : Nat) (he : e < m) (hn : e ∉ es) (hs : es.length < m) :
    Calls Try.prog 98 #[.pointer (some ⟨q.qb, 0, none⟩), .iface 3 (.int .i64 (e : Int))] w fun r w' => r = .returned (.tuple #[]) ∧
      ∃ g cap at', Qm w' (q.to g cap) m (es ++ [e]) at' op ∧ Fr (fun b => q.X b ∨ w.heap.size ≤ b) w w' ∧ (g = q.eb ∨ w.heap.size ≤ g) := by
  obtain ⟨c0, c1, c2⟩ := h.cells
  have Q1 := h.place he hn es.length
  have y1 := h.arow.cell e he
  have z1 := h.arow.loose e
  unfold nV at y1
  have hm := h.few
  have d1 := h.d1
  have hez : (e : Int) < (m : Int) := by omega
  have hl1 : es.length ≤ 1000 := by omega
  have HF1 : Hid (Fr q.X w (w.setCell ⟨q.ab, e, none⟩ (.int .i64 (es.length : Int))).drew) := fr_drew ((Fr.refl _ _).set (p := ⟨q.ab, e, none⟩) (fun _ => .inr (.inl rfl)) _)
  have HQ1 := Lib.hid (Q1.fr (X := fun _ => False) (fr_drew (Fr.refl _ _)) (fun _ _ h => h))
  have HU : Hid (upd at_ e es.length e = es.length) := upd_same _ _ _
  generalize at_ e = p at *
  clear h Q1 c2
  have ta : ∀ w : World, (Instr.typeAssert (.iface 3 (.int .i64 (e : Int))) 20 3 false).run Try.prog w = .ok (.int .i64 (e : Int)) w := fun w => by kernel_rfl
  go_enter Try.func98, Try.ntmps98
  go_wp2_with fail
  go_region
  generalize (w.setCell ⟨q.ab, e, none⟩ (.int .i64 (es.length : Int))).drew = w2 at *
  generalize upd at_ e es.length = at1 at *
  have HQ2 := Lib.hid (HQ1.out.fr (X := fun _ => False) (Fr.of_below ((Below.refl w2.heap.size w2).alloc (Nat.le_refl _) (.cells #[.int .i64 (e : Int)] 3))) (fun _ _ h => h))
  obtain ⟨C0, _, _⟩ := HQ1.out.cells
  clear c0 c1 y1 z1 HQ1
  go_wp2_with (at_builtin; refine wpList_push_n _ rfl _ _ rfl 0 _ es rfl HQ2.out.owns w2.heap.size rfl e (by simp) (Nat.zero_le _) (by omega) ?_; intro v' w3 h1 h2 h5; obtain ⟨C3, Z3⟩ := qm_grown HQ2.out h2.out; obtain ⟨g, cap, rfl, k1, k2, k3⟩ := qm_push HQ2.out he hn HU.out hs h1.out h2.out h5.out; have K1 := Lib.hid k1; have K2 := Lib.hid k2; have K3 := Lib.hid k3; clear k1 k2 k3 h1 h2 h5)
  go_end0
  have hsz := HF1.out.size
  refine ⟨rfl, g, cap, at1, K1.out, ?_, ?_⟩
  · refine (HF1.out.mono fun b _ hb => .inl hb).trans ?_
    have f1 : Fr (fun b => q.X b ∨ w.heap.size ≤ b) w2 (w2.alloc (.cells #[.int .i64 (e : Int)] 3)) := Fr.of_below ((Below.refl w2.heap.size w2).alloc (Nat.le_refl _) _)
    exact f1.trans (K2.out.mono fun b _ hb => .inl hb)
  · rcases K3.out with h | h
    · exact .inl h
    · exact .inr (by rw [h]; simp; omega)

set_option maxRecDepth 100000 in
set_option maxHeartbeats 2000000 in
theorem heapPush_any (q : QP) (m : Nat) (es : List Nat) (at_ op : Nat → Nat) (w : World) (h : Qm w q m es at_ op) (e : Nat) (he : e < m) (hn : e ∉ es) (hs : es.length < m) :
    Calls Try.prog 41 #[.iface 77 (.pointer (some ⟨q.qb, 0, none⟩)), .iface 3 (.int .i64 (e : Int))] w fun r w' => r = .returned (.tuple #[]) ∧ In q m op es e w w' := by
  have HP := Lib.hid (push_any q m es at_ op w h e he hn hs)
  have m1 := meth_push q.qb
  have m2 := meth_len q.qb
  have hm := h.few
  have hl1 : es.length ≤ 1000 := by omega
  clear h
  go_enter Try.func41, Try.ntmps41
  go_wp2_with fail
  (with_reducible refine HP.out.mono ?_)
  rintro r w1 ⟨rfl, g, cap, at1, k1, k2, k3⟩
  have HL : Hid (Calls Try.prog 31 #[.pointer (some ⟨q.qb, 0, none⟩)] w1 fun e w' => e = .returned (.int .i64 ((es.length + 1 : Nat) : Int)) ∧ w1 = w') := by
    have := len_any _ m _ at1 op w1 k1
    rw [List.length_append] at this
    exact this
  have HU : Hid (Calls Try.prog 53 #[.iface 77 (.pointer (some ⟨q.qb, 0, none⟩)), .int .i64 (es.length : Int)] w1 _) := up_any _ m _ at1 op w1 k1 es.length (by simp)
  have HK2 := Lib.hid k2
  have HK3 := Lib.hid k3
  clear k1 k2 k3 HP
  go_wp2_with fail
  (with_reducible refine HL.out.mono ?_)
  rintro r w' ⟨rfl, rfl⟩
  go_wp2_with fail
  (with_reducible refine HU.out.mono ?_)
  rintro r w2 ⟨rfl, es', ⟨⟨at2, t1⟩, t2, t3⟩, _⟩
  have HE : Hid (In q m op es e w w2) := by
    refine ⟨g, cap, es', at2, t1, t2, HK2.out.trans (t3.mono fun b hb hx => ?_), HK3.out⟩
    rcases hx with hx | hx | hx | hx
    · exact .inl (.inl hx)
    · exact .inl (.inr (.inl hx))
    · exact .inl (.inr (.inr (.inl hx)))
    · rcases HK3.out with h | h
      · exact .inl (.inr (.inr (.inr (hx.trans h))))
      · exact .inr (by rw [hx]; exact h)
  clear t1 t2 t3 HU
  go_wp2_with fail
  go_end0
  exact ⟨rfl, HE.out⟩
end Go.Proofs.Ytacncbojplmcjaa
end

section
namespace Go.Proofs.Ytacncbojplmcjaa
open Go.ChangeShapes Go.WideShapes Go.ChangeAt Go.RowKit Go.Joins
set_option linter.unusedVariables false

theorem nodup_lt : ∀ (n : Nat) {l : List Nat}, l.Nodup → (∀ x ∈ l, x < n) → l.length ≤ n
  | 0, l, _, h => by
    cases l with
    | nil => simp
    | cons x l => have := h x (by simp); omega
  | n + 1, l, hd, h => by
    by_cases hn : n ∈ l
    · have := nodup_lt n (l := l.erase n) (hd.erase n) fun x hx => by
        have h1 := h x (List.mem_of_mem_erase hx)
        have h2 : x ≠ n := fun e => by subst e; exact (List.Nodup.not_mem_erase hd) hx
        omega
      rw [List.length_erase_of_mem hn] at this
      omega
    · have := nodup_lt n hd fun x hx => by
        have h1 := h x hx
        have h2 : x ≠ n := fun e => hn (e ▸ hx)
        omega
      omega

set_option maxRecDepth 100000 in
theorem make_ints (n : Nat) (hn : n ≤ 1000000) (w : World) : (Instr.makeSlice 29 (.int .i64 (n : Int)) (.int .i64 (n : Int))).run Try.prog w = .ok (.slice (some ⟨w.heap.size, 0, none⟩) n n) (w.alloc (.cells (rowArr n (nV fun _ => 0)) 3)) := by
  have h := run_make_row' (P := Try.prog) 29 3 (.int .i64 0) 8 Try.underlying29 infoN rfl .i64 .i64 n (by omega) (by omega) w
  rw [h]
  congr 3
  apply Array.ext
  · simp [madeCells, rowArr]
  · intro i h1 h2
    simp [madeCells, rowArr, nV, Nat.mod_one]

/-- How many open unknowns the first k equations have. -/
def opK (es : Eqz) (k e : Nat) : Nat := if e < k then (es.getD e []).length else 0
theorem opK_start (es : Eqz) : opK es 0 = fun _ => 0 := by funext e; simp [opK]
theorem opK_next {es : Eqz} {k : Nat} (h : k < es.length) : opK es (k + 1) = upd (opK es k) k es[k].length := by
  funext e
  unfold opK upd
  by_cases h1 : e = k
  · subst h1; simp [List.getD, h]
  · by_cases h2 : e < k
    · simp [h1, h2, show e < k + 1 by omega]
    · simp [h1, h2, show ¬ e < k + 1 by omega]

/-- What holds when the first k equations are put in. -/
structure NQ (w wr : World) (qb : Nat) (es : Eqz) (k : Nat) : Prop where
  have_ : ∃ (q : QP) (l : List Nat) (at_ : Nat → Nat), q.qb = qb ∧ Qm wr q es.length l at_ (opK es k) ∧ (∀ e, e ∈ l ↔ e < es.length ∧ 0 < opK es k e) ∧ (∀ b, q.X b → w.heap.size ≤ b)
  low : Below w.heap.size w wr
theorem opK_low {es : Eqz} {k e : Nat} (h : 0 < opK es k e) : e < k := by
  unfold opK at h
  split at h
  · assumption
  · omega

/-- A queue of no equation. -/
theorem q_new (w : World) (m ab ob : Nat) (hm : m ≤ 1000) (hab : (ab = w.heap.size ∧ ob = w.heap.size + 1) ∨ (ab = w.heap.size + 1 ∧ ob = w.heap.size)) :
    Qm (((w.alloc (.cells (rowArr m (nV fun _ => 0)) 3)).alloc (.cells (rowArr m (nV fun _ => 0)) 3)).alloc (.cells #[.slice none 0 0, .slice (some ⟨ab, 0, none⟩) m m, .slice (some ⟨ob, 0, none⟩) m m] 81)) ⟨w.heap.size + 1 + 1, none, w.heap.size + 1 + 1, 0, ab, ob⟩ m [] (fun _ => 0) (fun _ => 0) := by
  have r0 : ∀ o2 o3, Row (((w.alloc (.cells (rowArr m (nV fun _ => 0)) 3)).alloc o2).alloc o3) w.heap.size 3 m m (nV fun _ => 0) := fun o2 o3 => ((Row.new_whole w _ 3 _ _ _ rfl rfl).alloc o2).alloc o3
  have r1 : ∀ o1 o3, Row (((w.alloc o1).alloc (.cells (rowArr m (nV fun _ => 0)) 3)).alloc o3) (w.heap.size + 1) 3 m m (nV fun _ => 0) := fun o1 o3 => (Row.new_whole (w.alloc o1) _ 3 _ _ _ (by simp) rfl).alloc o3
  refine Qm.mk ?_ (.inl ⟨rfl, rfl, rfl⟩) (by simp) (by simp) (by simp) ?_ ?_ ?_ ?_ ?_ (by simp) List.nodup_nil (fun i h => by simp at h) hm (fun _ => by omega)
  · have := heap_alloc_last ((w.alloc (.cells (rowArr m (nV fun _ => 0)) 3)).alloc (.cells (rowArr m (nV fun _ => 0)) 3)) (.cells #[.slice none 0 0, .slice (some ⟨ab, 0, none⟩) m m, .slice (some ⟨ob, 0, none⟩) m m] 81)
    simpa using this
  · rcases hab with ⟨rfl, rfl⟩ | ⟨rfl, rfl⟩
    · exact r0 _ _
    · exact r1 _ _
  · rcases hab with ⟨rfl, rfl⟩ | ⟨rfl, rfl⟩
    · exact r1 _ _
    · exact r0 _ _
  · show w.heap.size + 1 + 1 ≠ ab; omega
  · show w.heap.size + 1 + 1 ≠ ob; omega
  · show ab ≠ ob; omega
theorem nq_start (w : World) (es : Eqz) (ab ob : Nat) (hm : es.length ≤ 1000) (hab : (ab = w.heap.size ∧ ob = w.heap.size + 1) ∨ (ab = w.heap.size + 1 ∧ ob = w.heap.size)) :
    NQ w ((((w.alloc (.cells (rowArr es.length (nV fun _ => 0)) 3)).alloc (.cells (rowArr es.length (nV fun _ => 0)) 3)).alloc (.cells #[.slice none 0 0, .slice (some ⟨ab, 0, none⟩) es.length es.length, .slice (some ⟨ob, 0, none⟩) es.length es.length] 81)).drew) (w.heap.size + 1 + 1) es 0 := by
  refine ⟨⟨⟨w.heap.size + 1 + 1, none, w.heap.size + 1 + 1, 0, ab, ob⟩, [], fun _ => 0, rfl, ?_, fun e => ?_, fun b hb => ?_⟩, ?_⟩
  · rw [opK_start]; exact (q_new w es.length ab ob hm hab).fr (X := fun _ => False) (fr_drew (Fr.refl _ _)) (fun _ _ h => h)
  · rw [opK_start]; simp
  · rcases hb with h | h | h | h
    · have : b = w.heap.size + 1 + 1 := h
      omega
    · have : b = ab := h
      omega
    · have : b = ob := h
      omega
    · have : b = w.heap.size + 1 + 1 := h
      omega
  · exact ((((Below.refl _ w).alloc (Nat.le_refl _) _).alloc (by simp) _).alloc (by simp; omega) _).drew

set_option maxRecDepth 1000000 in
set_option maxHeartbeats 4000000 in
theorem newQueue_any (a : Option Addr) (cap : Nat) (es : Eqz) (hlen : es.length ≤ 1000) (hfew : ∀ l ∈ es, l.length ≤ 1000000) (w : World) (hs : Er w a cap es) :
    Calls Try.prog 30 #[.slice a es.length cap] w fun e w' => ∃ q, e = .returned (.pointer (some ⟨q.qb, 0, none⟩)) ∧ Qi w' q es.length (opK es es.length) ∧ (∀ b, q.X b → w.heap.size ≤ b) ∧ Below w.heap.size w w' := by
  have HS := Lib.hid hs
  have hlm := hs.lt
  have hmk := make_ints es.length (by omega)
  clear hs
  go_enter Try.func30, Try.ntmps30
  go_wp2_with fail
  go_region
  · have HN0 := Lib.hid (nq_start w es w.heap.size (w.heap.size + 1) hlen (.inl ⟨rfl, rfl⟩))
    obtain ⟨w3, hw3⟩ : ∃ w3, w3 = ((((w.alloc (.cells (rowArr es.length (nV fun _ => 0)) 3)).alloc (.cells (rowArr es.length (nV fun _ => 0)) 3)).alloc (.cells #[.slice none 0 0, .slice (some ⟨w.heap.size, 0, none⟩) es.length es.length, .slice (some ⟨w.heap.size + 1, 0, none⟩) es.length es.length] 81)).drew) := ⟨_, rfl⟩
    rw [← hw3] at HN0 ⊢
    obtain ⟨qb, hqb⟩ : ∃ qb, qb = w.heap.size + 1 + 1 := ⟨_, rfl⟩
    rw [← hqb] at HN0 ⊢
    clear hw3 hqb hmk
    go_wp2_with fail
    go_loopw [16] (fun i wr => ∃ k : Nat, k ≤ es.length ∧ i = .int .i64 k ∧ Hid (NQ w wr qb es k)) (fun i _ => es.length - (intOf i).toNat)
    case atStart => exact ⟨0, by omega, rfl, HN0⟩
    case round =>
      obtain ⟨k, hk, rfl, HN⟩ := hrel
      clear HN0
      by_cases hlt : k < es.length
      · obtain ⟨b, off, rfl, hb, a', c', hc, hl⟩ := er_one (HS.out.below HN.out.low) hlt
        have hlk := hl.lt
        have hfk := hfew _ (List.getElem_mem hlt)
        have HX := Lib.hid (opK_next hlt)
        have HB := Lib.hid HN.out.low
        obtain ⟨⟨q, l, at_, rfl, hq, hmem, hX⟩, _⟩ := HN.out
        have HX0 := Lib.hid hX
        have ho0 : opK es k k = 0 := by simp [opK]
        have HQ1 := Lib.hid (hq.open hlt es[k].length hfk)
        have hkl : k ∉ l := fun h => by have := (hmem k).1 h; omega
        have hll : l.length < es.length := Nat.lt_of_le_of_lt (nodup_lt k hq.nd fun x hx => opK_low ((hmem x).1 hx).2) hlt
        obtain ⟨_, _, c2⟩ := hq.cells
        have y1 := hq.orow.cell k hlt
        have z1 := hq.orow.loose k
        unfold nV at y1
        have hkz : (k : Int) < (es.length : Int) := by omega
        have HM := Lib.hid hmem
        have HF1 : Hid (Fr q.X wr (wr.setCell ⟨q.ob, k, none⟩ (.int .i64 (es[k].length : Int)))) := (Fr.refl _ _).set (p := ⟨q.ob, k, none⟩) (fun _ => .inr (.inr (.inl rfl))) _
        clear hl HN hq hmem hX
        generalize es[k].length = L at *
        by_cases hL : L = 0
        · subst hL
          have HE : Hid (NQ w (wr.setCell ⟨q.ob, k, none⟩ (.int .i64 0)) q.qb es (k + 1)) := by
            refine ⟨⟨q, l, at_, rfl, ?_, fun e => ?_, HX0.out⟩, HB.out.trans (HF1.out.below HB.out.size fun b hb h => by have := HX0.out b h; omega)⟩
            · rw [HX.out]; exact HQ1.out
            · rw [HX.out, HM.out]
              by_cases hek : e = k
              · subst hek; rw [upd_same, ho0]
              · rw [upd_far _ hek]
          have dL : decide ((0 : Int) < ((0 : Nat) : Int)) = false := rfl
          clear HQ1 HM HF1 HX
          go_wp2_with fail
          go_roundw
          case rel => exact ⟨k + 1, by omega, by go_num, HE⟩
          case measure => simp [intOf]; omega
        · have dL : decide ((0 : Int) < (L : Int)) = true := by rw [decide_eq_true_iff]; omega
          have HP := Lib.hid (heapPush_any q es.length l at_ _ _ HQ1.out k hlt hkl hll)
          clear HQ1
          go_wp2_with fail
          (with_reducible refine HP.out.mono ?_)
          rintro r w1 ⟨rfl, g, cp, l', at2, k1, k2, k3, k4⟩
          have HE : Hid (NQ w w1 q.qb es (k + 1)) := by
            have hs1 : wr.heap.size = (wr.setCell ⟨q.ob, k, none⟩ (.int .i64 (L : Int))).heap.size := by simp
            refine ⟨⟨q.to g cp, l', at2, rfl, ?_, fun e => ?_, fun b hb => ?_⟩, ?_⟩
            · rw [HX.out]; exact k1
            · rw [HX.out, k2.mem_iff, List.mem_append, HM.out]
              by_cases hek : e = k
              · subst hek
                rw [upd_same]
                exact ⟨fun _ => ⟨hlt, by omega⟩, fun _ => .inr (by simp)⟩
              · rw [upd_far _ hek]
                simp [hek]
            · rcases hb with h | h | h | h
              · exact HX0.out b (.inl h)
              · exact HX0.out b (.inr (.inl h))
              · exact HX0.out b (.inr (.inr (.inl h)))
              · have h' : b = g := h
                rcases k4 with h4 | h4
                · exact HX0.out b (.inr (.inr (.inr (h'.trans h4))))
                · have := HB.out.size; omega
            · have f1 : Fr (fun b => q.X b ∨ wr.heap.size ≤ b) wr w1 := (HF1.out.mono (Y := fun b => q.X b ∨ wr.heap.size ≤ b) fun b _ h => .inl h).trans (k3.mono fun b _ h => h.imp id fun h => by rw [hs1]; exact h)
              refine HB.out.trans (f1.below HB.out.size fun b hb h => ?_)
              have := HB.out.size
              rcases h with h | h
              · have := HX0.out b h; omega
              · omega
          clear k1 k2 k3 k4 HP HM HF1 HX
          go_wp2_with fail
          go_roundw
          case rel => exact ⟨k + 1, by omega, by go_num, HE⟩
          case measure => simp [intOf]; omega
      · obtain rfl : k = es.length := by omega
        have HE : Hid (∃ q : QP, q.qb = qb ∧ Qi wr q es.length (opK es es.length) ∧ (∀ b, q.X b → w.heap.size ≤ b) ∧ Below w.heap.size w wr) := by
          obtain ⟨⟨q, l, at_, h1, h2, h3, h4⟩, h5⟩ := HN.out
          exact ⟨q, h1, ⟨l, at_, h2, h3⟩, h4, h5⟩
        clear HN
        go_wp2_with fail
        go_ret
        obtain ⟨q, rfl, h⟩ := HE.out
        exact ⟨q, rfl, h⟩
  · have HN0 := Lib.hid (nq_start w es (w.heap.size + 1) w.heap.size hlen (.inr ⟨rfl, rfl⟩))
    obtain ⟨w3, hw3⟩ : ∃ w3, w3 = ((((w.alloc (.cells (rowArr es.length (nV fun _ => 0)) 3)).alloc (.cells (rowArr es.length (nV fun _ => 0)) 3)).alloc (.cells #[.slice none 0 0, .slice (some ⟨w.heap.size + 1, 0, none⟩) es.length es.length, .slice (some ⟨w.heap.size, 0, none⟩) es.length es.length] 81)).drew) := ⟨_, rfl⟩
    rw [← hw3] at HN0 ⊢
    obtain ⟨qb, hqb⟩ : ∃ qb, qb = w.heap.size + 1 + 1 := ⟨_, rfl⟩
    rw [← hqb] at HN0 ⊢
    clear hw3 hqb hmk
    go_wp2_with fail
    go_loopw [16] (fun i wr => ∃ k : Nat, k ≤ es.length ∧ i = .int .i64 k ∧ Hid (NQ w wr qb es k)) (fun i _ => es.length - (intOf i).toNat)
    case atStart => exact ⟨0, by omega, rfl, HN0⟩
    case round =>
      obtain ⟨k, hk, rfl, HN⟩ := hrel
      clear HN0
      by_cases hlt : k < es.length
      · obtain ⟨b, off, rfl, hb, a', c', hc, hl⟩ := er_one (HS.out.below HN.out.low) hlt
        have hlk := hl.lt
        have hfk := hfew _ (List.getElem_mem hlt)
        have HX := Lib.hid (opK_next hlt)
        have HB := Lib.hid HN.out.low
        obtain ⟨⟨q, l, at_, rfl, hq, hmem, hX⟩, _⟩ := HN.out
        have HX0 := Lib.hid hX
        have ho0 : opK es k k = 0 := by simp [opK]
        have HQ1 := Lib.hid (hq.open hlt es[k].length hfk)
        have hkl : k ∉ l := fun h => by have := (hmem k).1 h; omega
        have hll : l.length < es.length := Nat.lt_of_le_of_lt (nodup_lt k hq.nd fun x hx => opK_low ((hmem x).1 hx).2) hlt
        obtain ⟨_, _, c2⟩ := hq.cells
        have y1 := hq.orow.cell k hlt
        have z1 := hq.orow.loose k
        unfold nV at y1
        have hkz : (k : Int) < (es.length : Int) := by omega
        have HM := Lib.hid hmem
        have HF1 : Hid (Fr q.X wr (wr.setCell ⟨q.ob, k, none⟩ (.int .i64 (es[k].length : Int)))) := (Fr.refl _ _).set (p := ⟨q.ob, k, none⟩) (fun _ => .inr (.inr (.inl rfl))) _
        clear hl HN hq hmem hX
        generalize es[k].length = L at *
        by_cases hL : L = 0
        · subst hL
          have HE : Hid (NQ w (wr.setCell ⟨q.ob, k, none⟩ (.int .i64 0)) q.qb es (k + 1)) := by
            refine ⟨⟨q, l, at_, rfl, ?_, fun e => ?_, HX0.out⟩, HB.out.trans (HF1.out.below HB.out.size fun b hb h => by have := HX0.out b h; omega)⟩
            · rw [HX.out]; exact HQ1.out
            · rw [HX.out, HM.out]
              by_cases hek : e = k
              · subst hek; rw [upd_same, ho0]
              · rw [upd_far _ hek]
          have dL : decide ((0 : Int) < ((0 : Nat) : Int)) = false := rfl
          clear HQ1 HM HF1 HX
          go_wp2_with fail
          go_roundw
          case rel => exact ⟨k + 1, by omega, by go_num, HE⟩
          case measure => simp [intOf]; omega
        · have dL : decide ((0 : Int) < (L : Int)) = true := by rw [decide_eq_true_iff]; omega
          have HP := Lib.hid (heapPush_any q es.length l at_ _ _ HQ1.out k hlt hkl hll)
          clear HQ1
          go_wp2_with fail
          (with_reducible refine HP.out.mono ?_)
          rintro r w1 ⟨rfl, g, cp, l', at2, k1, k2, k3, k4⟩
          have HE : Hid (NQ w w1 q.qb es (k + 1)) := by
            have hs1 : wr.heap.size = (wr.setCell ⟨q.ob, k, none⟩ (.int .i64 (L : Int))).heap.size := by simp
            refine ⟨⟨q.to g cp, l', at2, rfl, ?_, fun e => ?_, fun b hb => ?_⟩, ?_⟩
            · rw [HX.out]; exact k1
            · rw [HX.out, k2.mem_iff, List.mem_append, HM.out]
              by_cases hek : e = k
              · subst hek
                rw [upd_same]
                exact ⟨fun _ => ⟨hlt, by omega⟩, fun _ => .inr (by simp)⟩
              · rw [upd_far _ hek]
                simp [hek]
            · rcases hb with h | h | h | h
              · exact HX0.out b (.inl h)
              · exact HX0.out b (.inr (.inl h))
              · exact HX0.out b (.inr (.inr (.inl h)))
              · have h' : b = g := h
                rcases k4 with h4 | h4
                · exact HX0.out b (.inr (.inr (.inr (h'.trans h4))))
                · have := HB.out.size; omega
            · have f1 : Fr (fun b => q.X b ∨ wr.heap.size ≤ b) wr w1 := (HF1.out.mono (Y := fun b => q.X b ∨ wr.heap.size ≤ b) fun b _ h => .inl h).trans (k3.mono fun b _ h => h.imp id fun h => by rw [hs1]; exact h)
              refine HB.out.trans (f1.below HB.out.size fun b hb h => ?_)
              have := HB.out.size
              rcases h with h | h
              · have := HX0.out b h; omega
              · omega
          clear k1 k2 k3 k4 HP HM HF1 HX
          go_wp2_with fail
          go_roundw
          case rel => exact ⟨k + 1, by omega, by go_num, HE⟩
          case measure => simp [intOf]; omega
      · obtain rfl : k = es.length := by omega
        have HE : Hid (∃ q : QP, q.qb = qb ∧ Qi wr q es.length (opK es es.length) ∧ (∀ b, q.X b → w.heap.size ≤ b) ∧ Below w.heap.size w wr) := by
          obtain ⟨⟨q, l, at_, h1, h2, h3, h4⟩, h5⟩ := HN.out
          exact ⟨q, h1, ⟨l, at_, h2, h3⟩, h4, h5⟩
        clear HN
        go_wp2_with fail
        go_ret
        obtain ⟨q, rfl, h⟩ := HE.out
        exact ⟨q, rfl, h⟩
end Go.Proofs.Ytacncbojplmcjaa
end

section
namespace Go.Proofs.Ytacncbojplmcjaa
open Go.RowKit Go.Sort
set_option linter.unusedVariables false

section
variable {P : Program} {ops : Array Oper} {Q : Exit → Act → World → Prop} {C : World → Prop} {last : Nat} {post : List Nat}

/-- Each operation that has not come up, but the last one and those behind it, is waited for by a later one that has not come up. -/
def SinkV (post : List Nat) (ops : Array Oper) (last : Nat) (listed : Array Bool) : Prop :=
  ∀ i, i ≠ last → post.contains i = false → listed.getD i true = false → ∃ j oj, i < j ∧ (j = last ∨ post.contains j = false) ∧ listed.getD j true = false ∧ ops[j]? = some oj ∧ ∃ e ∈ oj.after, Region.binds .any e = true ∧ e.on = i
def sinkVB (post : List Nat) (ops : Array Oper) (last : Nat) (listed : Array Bool) : Bool :=
  (List.range listed.size).all fun i => i == last || post.contains i || listed.getD i true || (List.range listed.size).any fun j => decide (i < j) && (j == last || !post.contains j) && !listed.getD j true && (match ops[j]? with | some oj => oj.after.any fun e => Region.binds .any e && e.on == i | none => false)
theorem sinkV_of {listed : Array Bool} (h : sinkVB post ops last listed = true) : SinkV post ops last listed := fun i hi hlo hu => by
  unfold sinkVB at h
  rw [List.all_eq_true] at h
  have h1 := h i (List.mem_range.2 (lt_of_unlisted hu))
  simp only [hu, hlo, Bool.or_false, Bool.or_eq_true, beq_iff_eq] at h1
  rcases h1 with h1 | h1
  · exact absurd h1 hi
  · obtain ⟨j, hj, h2⟩ := List.any_eq_true.1 h1
    simp only [Bool.and_eq_true, Bool.or_eq_true, beq_iff_eq, decide_eq_true_eq, Bool.not_eq_true'] at h2
    obtain ⟨⟨⟨h3, h3'⟩, h4⟩, h5⟩ := h2
    cases ho : ops[j]? with
    | none => rw [ho] at h5; simp at h5
    | some oj =>
      rw [ho] at h5
      obtain ⟨e, he, hb⟩ := Array.any_eq_true'.1 h5
      simp only [Bool.and_eq_true, beq_iff_eq] at hb
      exact ⟨j, oj, h3, h3', h4, ho, e, he, hb.1, hb.2⟩
theorem SinkV.set {listed : Array Bool} {r : Nat} (h : SinkV post ops last listed) (hr : r ∈ Region.ready .any ops listed) : SinkV post ops last (listed.setIfInBounds r true) := fun i hi hlo hu => by
  have hir : r ≠ i := fun e => by
    subst e
    have hlt := lt_of_unlisted (mem_ready.1 hr).1
    simp [hlt] at hu
  rw [getD_set_ne true hir] at hu
  obtain ⟨j, oj, h1, h1', h2, h3, e, he, hb, hon⟩ := h i hi hlo hu
  have hrj : r ≠ j := fun e' => by subst e'; exact unready hu h3 he hb hon hr
  exact ⟨j, oj, h1, h1', by rw [getD_set_ne true hrj]; exact h2, h3, e, he, hb, hon⟩
theorem SinkV.late {listed : Array Bool} (h : SinkV post ops last listed) : ∀ (n i : Nat), listed.size - i ≤ n → i ≠ last → post.contains i = false → listed.getD i true = false → last ∉ Region.ready .any ops listed
  | 0, i, hn, hi, _, hu => by have := lt_of_unlisted hu; omega
  | n + 1, i, hn, hi, hlo, hu => by
    obtain ⟨j, oj, h1, h1', h2, h3, e, he, hb, hon⟩ := h i hi hlo hu
    by_cases hj : j = last
    · subst hj; exact unready hu h3 he hb hon
    · exact SinkV.late h n j (by have := lt_of_unlisted hu; omega) hj (h1'.resolve_left hj) h2

theorem wpAnyV_first {i : Nat} {oi : Oper} {v : Value} (hi : ops[i]? = some oi) (hil : i ≠ last) (hlo : post.contains i = false) (hsel : ∀ (j : Nat) (o : Oper) cs b, ops[j]? = some o → o.op ≠ .select cs b)
    (hQ : ∀ c a w, Q (.panic c) (a.put oi.dst v) w → Q (.panic c) a w) :
    ∀ (fuel : Nat) (listed : Array Bool) (a : Act) (w : World),
      (∀ j oj, ops[j]? = some oj → j ≠ i → listed.getD j true = false → (∀ e ∈ oj.after, Region.binds .any e = true → e.on ≠ i) → oi.apart ops oj = true) → SinkV post ops last listed → listed.getD last true = false →
      i ∈ Region.ready .any ops listed → YieldsIf P ops C oi v a → C w →
      wpAnyT P ops Q C last fuel (listed.setIfInBounds i true) (a.put oi.dst v) w → wpAnyT P ops Q C last (fuel + 1) listed a w := by
  intro fuel
  induction fuel with
  | zero =>
    intro listed a w _ _ _ hr hy hS H
    refine ⟨fun h => (by rw [h] at hr; cases hr), fun j hj => ?_⟩
    by_cases hji : j = i
    · subst hji; exact hy.wpOp hi hS ⟨fun _ => hS, H⟩
    · have := ready_mono hj hji
      rw [H.1] at this
      cases this
  | succ fuel ih =>
    intro listed a w hfree hsink hlu hr hy hS H
    refine ⟨fun h => (by rw [h] at hr; cases hr), fun j hj => ?_⟩
    by_cases hji : j = i
    · subst hji; exact hy.wpOp hi hS ⟨fun _ => hS, H⟩
    · have hjl : j ≠ last := fun e => by
        subst e
        exact hsink.late listed.size i (by omega) hil hlo (mem_ready.1 hr).1 hj
      have h1 := H.2 j (ready_mono hj hji)
      obtain ⟨hjun, oj, hoj, hall⟩ := mem_ready.1 hj
      have hnot : ∀ e ∈ oj.after, Region.binds .any e = true → e.on ≠ i := fun e he hb heq => unready (mem_ready.1 hr).1 hoj he hb heq hj
      have h2 := wpOp_putIf hoj (hfree j oj hoj hji hjun hnot) (fun cs b => hsel i oi cs b hi) (fun cs b => hsel j oj cs b hoj) hQ hy h1
      have hfree' : ∀ k ok, ops[k]? = some ok → k ≠ i → (listed.setIfInBounds j true).getD k true = false →
          (∀ e ∈ ok.after, Region.binds .any e = true → e.on ≠ i) → oi.apart ops ok = true := fun k ok hk hki hun hno => by
        refine hfree k ok hk hki ?_ hno
        by_cases hjk : j = k
        · subst hjk; exact hjun
        · rw [getD_set_ne true hjk] at hun; exact hun
      have hlu2 : (listed.setIfInBounds j true).getD last true = false := by rw [getD_set_ne true hjl]; exact hlu
      have hlu3 : ((listed.setIfInBounds i true).setIfInBounds j true).getD last true = false := by rw [getD_set_ne true hjl, getD_set_ne true hil]; exact hlu
      refine wpOp_mono (fun a' w' h3 => ⟨fun _ => h3.2.1 hlu3, ih (listed.setIfInBounds j true) a' w' hfree' (hsink.set hj) hlu2 (ready_mono hr (Ne.symm hji)) h3.1 (h3.2.1 hlu3) ?_⟩) h2
      rw [Array.setIfInBounds_comm _ _ hji]
      exact h3.2.2

theorem wpAnyV_take {i : Nat} {oi : Oper} {v : Value} {fuel : Nat} {listed : Array Bool} {a : Act} {w : World} (hi : ops[i]? = some oi) (hil : i ≠ last) (hlo : post.contains i = false) (hsink : SinkV post ops last listed) (hlu : listed.getD last true = false)
    (hs : Region.noSelect ops = true) (hf : Region.free .any ops listed i = true) (hr : (Region.ready .any ops listed).contains i = true)
    (hQ : ∀ c a w, Q (.panic c) (a.put oi.dst v) w → Q (.panic c) a w) (hy : YieldsIf P ops C oi v a) (hS : C w)
    (h : wpAnyT P ops Q C last fuel (listed.setIfInBounds i true) (a.put oi.dst v) w) : wpAnyT P ops Q C last (fuel + 1) listed a w :=
  wpAnyV_first hi hil hlo (Region.noSelect_spec hs) hQ fuel listed a w (Region.free_spec hi hf) hsink hlu (by simpa using hr) hy hS h
/-- A plain move hangs on no world: it may come up behind the last one. -/
def isMove (ops : Array Oper) (i : Nat) : Bool := match ops[i]? with
  | some o => (match o.op with | .move .. => true | _ => false)
  | none => false
theorem move_any {o : Oper} {ρ : Operand → Value} {w : World} {v : Value} {x : Operand} (ho : o.op = .move x) (h : (execOp ρ o).run P w = .ok (.value v) w) : ∀ w', (execOp ρ o).run P w' = .ok (.value v) w' := fun w' => by
  obtain ⟨dst, op, type, pos, after, guard⟩ := o
  simp only at ho
  subst ho
  simp only [execOp, Sem.run_pure] at h ⊢
  cases h
  rfl
/-- These operations may come up one behind the other, each plain, none the last one. -/
def takesV (post : List Nat) (ops : Array Oper) (last : Nat) : List Nat → Array Bool → Bool
  | [], _ => true
  | i :: is, listed => (Region.ready .any ops listed).contains i && Region.free .any ops listed i && ((post.contains i && isMove ops i) || (!post.contains i && (sinkVB post ops last listed && !listed.getD last true))) && !(i == last) && ((ops[i]?).map fun o => plainOp o.op).getD false && takesV post ops last is (listed.setIfInBounds i true)

theorem growV_take (hs : Region.noSelect ops = true) : ∀ (is : List Nat) (n : Nat) (listed : Array Bool) (a : Act), takesV post ops last is listed = true →
    wpQuiet P ops C (fun a' => ∀ w, C w → wpAnyT P ops (NoPanic Q) C last n (marks is listed) a' w) (opsAt ops is) a → ∀ w, C w → wpAnyT P ops (NoPanic Q) C last (n + is.length) listed a w
  | [], n, listed, a, _, h, w, hw => h w hw
  | i :: is, n, listed, a, hB, h, w, hw => by
    simp only [takesV, Bool.and_eq_true, Bool.or_eq_true, Bool.not_eq_true', beq_eq_false_iff_ne] at hB
    obtain ⟨⟨⟨⟨⟨hr, hf⟩, hk⟩, hil⟩, hp⟩, hB'⟩ := hB
    cases ho : ops[i]? with
    | none => rw [ho] at hp; simp at hp
    | some o =>
      rw [ho] at hp
      have hp' : plainOp o.op = true := by simpa using hp
      simp only [opsAt, ho, wpQuiet] at h
      have key : ∃ v, YieldsIf P ops C o v a ∧ wpQuiet P ops C (fun a' => ∀ w, C w → wpAnyT P ops (NoPanic Q) C last n (marks is (listed.setIfInBounds i true)) a' w) (opsAt ops is) (a.put o.dst v) := by
        by_cases hwt : Region.wanted o (yielded ops a.tmps) = true
        · rw [if_pos hwt] at h
          obtain ⟨v, h1, h2⟩ := h
          exact ⟨v, yieldsIf_of_quiet hp' hwt h1, h2⟩
        · rw [if_neg hwt] at h
          exact ⟨undef, .inr ⟨by simpa using hwt, rfl⟩, h⟩
      obtain ⟨v, hy, hq⟩ := key
      have rest := growV_take hs is n (listed.setIfInBounds i true) (a.put o.dst v) hB' hq w hw
      rcases hk with ⟨-, hlo⟩ | ⟨hlo, hk1, hk2⟩
      · refine wpAnyT_loose ho hil hs hf hr (fun _ _ _ h => h) ?_ hw rest
        unfold isMove at hlo
        rw [ho] at hlo
        obtain ⟨x, hop⟩ : ∃ x, o.op = .move x := by
          cases hop : o.op <;> simp only [hop, Bool.false_eq_true] at hlo
          exact ⟨_, rfl⟩
        exact hy.imp (fun ⟨h1, h2⟩ => ⟨h1, fun w' _ => move_any hop (h2 w hw) w'⟩) id
      · exact wpAnyV_take ho hil hlo (sinkV_of hk1) hk2 hs hf hr (fun _ _ _ h => h) hy hw rest


theorem step_op {K : Act → World → Prop} {q : Nat} {a1 : Act} {w1 : World} (hs : stepOf P ops (NoPanic Q) K a1 w1 ops[q]?) : wpOp P ops (NoPanic Q) q K a1 w1 := by
  unfold wpOp
  cases ho : ops[q]? with
  | none => rw [ho] at hs; exact hs.elim
  | some o =>
    rw [ho] at hs
    simp only [stepOf] at hs
    show if Region.wanted o (yielded ops a1.tmps) = true then _ else _
    by_cases hwt : Region.wanted o (yielded ops a1.tmps) = true
    · rw [if_pos hwt] at hs ⊢; exact .inl hs
    · rw [if_neg hwt] at hs ⊢; exact hs
/-- The one that writes freely: more may come behind it. -/
theorem growV_last {n : Nat} {listed : Array Bool} {a : Act} {w : World} (hr : Region.ready .any ops listed = [last])
    (h : ∀ K : Act → World → Prop, Shut (∀ a' w1, wpAnyT P ops (NoPanic Q) C last n (listed.setIfInBounds last true) a' w1 → K a' w1) → stepOf P ops (NoPanic Q) K a w ops[last]?) : wpAnyT P ops (NoPanic Q) C last (n + 1) listed a w := by
  refine wpAnyT_all hr (by simp) fun j hj => ?_
  obtain rfl : j = last := by simpa using hj
  exact step_op (h _ (fun a' w1 hq => ⟨fun e => (by rw [getD_set_self] at e; cases e), hq⟩))
/-- One behind it, which alone may come up. -/
theorem growV_then (i : Nat) {n : Nat} {listed : Array Bool} {a : Act} {w : World} (hr : Region.ready .any ops listed = [i]) (hl : listed.getD last true = true) (hil : i ≠ last)
    (h : ∀ K : Act → World → Prop, Shut (∀ a' w1, wpAnyT P ops (NoPanic Q) C last n (listed.setIfInBounds i true) a' w1 → K a' w1) → stepOf P ops (NoPanic Q) K a w ops[i]?) : wpAnyT P ops (NoPanic Q) C last (n + 1) listed a w := by
  refine wpAnyT_all hr (by simp) fun j hj => ?_
  obtain rfl : j = i := by simpa using hj
  refine step_op (h _ (fun a' w1 hq => ⟨fun e => ?_, hq⟩))
  rw [getD_set_ne true hil, hl] at e
  cases e
theorem growV_done {n : Nat} {listed : Array Bool} {a : Act} {w : World} (hr : Region.ready .any ops listed = []) (h : Q .normal a w) : wpAnyT P ops (NoPanic Q) C last n listed a w := wpAnyT_done hr (NoPanic.normal h) n
end
end Go.Proofs.Ytacncbojplmcjaa
end
