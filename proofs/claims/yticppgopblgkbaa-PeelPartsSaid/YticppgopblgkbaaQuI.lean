/-
  A heap of equations: Push, container/heap's Push.
-/
import Derived.Test.YticppgopblgkbaaQuH
import Derived.BigRegion
namespace Go.Proofs.Yticppgopblgkbaa
open Go.ChangeShapes Go.WideShapes Go.ChangeAt Go.RowKit Go.Joins
set_option linter.unusedVariables false

/-- An equation e is put into a queue. -/
def In (q : QP) (m : Nat) (op : Nat → Nat) (es : List Nat) (e : Nat) (w w' : World) : Prop :=
  ∃ g cap es' at_, Qm w' (q.to g cap) m es' at_ op ∧ es'.Perm (es ++ [e]) ∧ Fr (fun b => q.X b ∨ w.heap.size ≤ b) w w' ∧ (g = q.eb ∨ w.heap.size ≤ g)

theorem fr_drew {X : Nat → Prop} {a w : World} (h : Fr X a w) : Fr X a w.drew := ⟨h.os, h.tape, h.output, h.size, h.block⟩
theorem qm_grown {w w' : World} {q : QP} {m : Nat} {es : List Nat} {at_ op : Nat → Nat} (h : Qm w q m es at_ op) (h2 : w.grownBy w' (Value.ownBlock (.slice q.ea es.length q.cap))) :
    w'.cell? ⟨q.qb, 0, none⟩ = some (.slice q.ea es.length q.cap) ∧ w'.frozen? ⟨q.qb, 0, none⟩ = false := by
  have hh : w'.heap[q.qb]? = _ := (h2.block q.qb h.lt fun e1 => by
    rcases h.here with ⟨_, _, k3⟩ | ⟨k1, _, k3, _⟩
    · rw [k3] at e1; cases e1
    · rw [k1] at e1; injection e1 with e1; exact k3 e1.symm).trans h.head
  exact ⟨by rw [cell_of_block hh]; rfl, unfrozen_of_block hh 0⟩

set_option maxRecDepth 1000000 in
set_option maxHeartbeats 4000000 in
theorem push_any (q : QP) (m : Nat) (es : List Nat) (at_ op : Nat → Nat) (w : World) (h : Qm w q m es at_ op) (e : Nat) (he : e < m) (hn : e ∉ es) (hs : es.length < m) :
    Calls Try.prog 65 #[.pointer (some ⟨q.qb, 0, none⟩), .iface 3 (.int .i64 (e : Int))] w fun r w' => r = .returned (.tuple #[]) ∧
      ∃ g cap at', Qm w' (q.to g cap) m (es ++ [e]) at' op ∧ Fr (fun b => q.X b ∨ w.heap.size ≤ b) w w' ∧ (g = q.eb ∨ w.heap.size ≤ g) := by
  obtain ⟨c0, c1, c2⟩ := h.cells
  have Q1 := h.place he hn es.length
  have y1 := h.arow.cell e he
  have z1 := h.arow.loose e
  unfold nV at y1
  have hm := h.few
  have d1 := h.d1
  have hez : (e : Int) < (m : Int) := by omega
  have hl1 : es.length ≤ 1000 := by omega
  have HF1 : Hid (Fr q.X w (w.setCell ⟨q.ab, e, none⟩ (.int .i64 (es.length : Int))).drew) := fr_drew ((Fr.refl _ _).set (p := ⟨q.ab, e, none⟩) (fun _ => .inr (.inl rfl)) _)
  have HQ1 := Lib.hid (Q1.fr (X := fun _ => False) (fr_drew (Fr.refl _ _)) (fun _ _ h => h))
  have HU : Hid (upd at_ e es.length e = es.length) := upd_same _ _ _
  generalize at_ e = p at *
  clear h Q1 c2
  have ta : ∀ w : World, (Instr.typeAssert (.iface 3 (.int .i64 (e : Int))) 20 3 false).run Try.prog w = .ok (.int .i64 (e : Int)) w := fun w => by kernel_rfl
  go_enter Try.func65, Try.ntmps65
  go_wp2_with fail
  go_region
  generalize (w.setCell ⟨q.ab, e, none⟩ (.int .i64 (es.length : Int))).drew = w2 at *
  generalize upd at_ e es.length = at1 at *
  have HQ2 := Lib.hid (HQ1.out.fr (X := fun _ => False) (Fr.of_below ((Below.refl w2.heap.size w2).alloc (Nat.le_refl _) (.cells #[.int .i64 (e : Int)] 3))) (fun _ _ h => h))
  obtain ⟨C0, _, _⟩ := HQ1.out.cells
  clear c0 c1 y1 z1 HQ1
  go_wp2_with (at_builtin; refine wpList_push_n _ rfl _ _ rfl 0 _ es rfl HQ2.out.owns w2.heap.size rfl e (by simp) (Nat.zero_le _) (by omega) ?_; intro v' w3 h1 h2 h5; obtain ⟨C3, Z3⟩ := qm_grown HQ2.out h2.out; obtain ⟨g, cap, rfl, k1, k2, k3⟩ := qm_push HQ2.out he hn HU.out hs h1.out h2.out h5.out; have K1 := Lib.hid k1; have K2 := Lib.hid k2; have K3 := Lib.hid k3; clear k1 k2 k3 h1 h2 h5)
  go_end0
  have hsz := HF1.out.size
  refine ⟨rfl, g, cap, at1, K1.out, ?_, ?_⟩
  · refine (HF1.out.mono fun b _ hb => .inl hb).trans ?_
    have f1 : Fr (fun b => q.X b ∨ w.heap.size ≤ b) w2 (w2.alloc (.cells #[.int .i64 (e : Int)] 3)) := Fr.of_below ((Below.refl w2.heap.size w2).alloc (Nat.le_refl _) _)
    exact f1.trans (K2.out.mono fun b _ hb => .inl hb)
  · rcases K3.out with h | h
    · exact .inl h
    · exact .inr (by rw [h]; simp; omega)

set_option maxRecDepth 100000 in
set_option maxHeartbeats 2000000 in
theorem heapPush_any (q : QP) (m : Nat) (es : List Nat) (at_ op : Nat → Nat) (w : World) (h : Qm w q m es at_ op) (e : Nat) (he : e < m) (hn : e ∉ es) (hs : es.length < m) :
    Calls Try.prog 18 #[.iface 43 (.pointer (some ⟨q.qb, 0, none⟩)), .iface 3 (.int .i64 (e : Int))] w fun r w' => r = .returned (.tuple #[]) ∧ In q m op es e w w' := by
  have HP := Lib.hid (push_any q m es at_ op w h e he hn hs)
  have m1 := meth_push q.qb
  have m2 := meth_len q.qb
  have hm := h.few
  have hl1 : es.length ≤ 1000 := by omega
  clear h
  go_enter Try.func18, Try.ntmps18
  go_wp2_with fail
  (with_reducible refine HP.out.mono ?_)
  rintro r w1 ⟨rfl, g, cap, at1, k1, k2, k3⟩
  have HL : Hid (Calls Try.prog 14 #[.pointer (some ⟨q.qb, 0, none⟩)] w1 fun e w' => e = .returned (.int .i64 ((es.length + 1 : Nat) : Int)) ∧ w1 = w') := by
    have := len_any _ m _ at1 op w1 k1
    rw [List.length_append] at this
    exact this
  have HU : Hid (Calls Try.prog 24 #[.iface 43 (.pointer (some ⟨q.qb, 0, none⟩)), .int .i64 (es.length : Int)] w1 _) := up_any _ m _ at1 op w1 k1 es.length (by simp)
  have HK2 := Lib.hid k2
  have HK3 := Lib.hid k3
  clear k1 k2 k3 HP
  go_wp2_with fail
  (with_reducible refine HL.out.mono ?_)
  rintro r w' ⟨rfl, rfl⟩
  go_wp2_with fail
  (with_reducible refine HU.out.mono ?_)
  rintro r w2 ⟨rfl, es', ⟨⟨at2, t1⟩, t2, t3⟩, _⟩
  have HE : Hid (In q m op es e w w2) := by
    refine ⟨g, cap, es', at2, t1, t2, HK2.out.trans (t3.mono fun b hb hx => ?_), HK3.out⟩
    rcases hx with hx | hx | hx | hx
    · exact .inl (.inl hx)
    · exact .inl (.inr (.inl hx))
    · exact .inl (.inr (.inr (.inl hx)))
    · rcases HK3.out with h | h
      · exact .inl (.inr (.inr (.inr (hx.trans h))))
      · exact .inr (by rw [hx]; exact h)
  clear t1 t2 t3 HU
  go_wp2_with fail
  go_end0
  exact ⟨rfl, HE.out⟩
end Go.Proofs.Yticppgopblgkbaa
