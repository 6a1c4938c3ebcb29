/-
  Statements that leave their order open and write: a class of worlds in which all but some blocks stay.
-/
import Derived.Test.YticppgopblgkbaaGrowW
import Derived.Test.YticppgopblgkbaaGrowK
import Derived.Test.YticppgopblgkbaaQuH
namespace Go.Proofs.Yticppgopblgkbaa
open Go.ChangeShapes Go.WideShapes Go.ChangeAt Go.RowKit Go.Joins
set_option linter.unusedVariables false

/-- Worlds that have what W has, but for the blocks that S names. -/
structure KeepW (W : World) (S : Nat → Prop) where
  v : World
  h : Fr S W v
instance keepW_some (W : World) (S : Nat → Prop) : Nonempty (KeepW W S) := ⟨⟨W, Fr.refl _ _⟩⟩
theorem keep_class {W w : World} {S : Nat → Prop} (h : Fr S W w) : ∃ p : KeepW W S, w = p.v := ⟨⟨w, h⟩, rfl⟩
theorem KeepW.cell {W : World} {S : Nat → Prop} (p : KeepW W S) {b i : Nat} (hb : b < W.heap.size) (hS : ¬ S b) : p.v.cell? ⟨b, i, none⟩ = W.cell? ⟨b, i, none⟩ :=
  World.cell?_of_block (a := ⟨b, i, none⟩) (p.h.block b hb hS)
theorem KeepW.loose {W : World} {S : Nat → Prop} (p : KeepW W S) {b i : Nat} (hb : b < W.heap.size) (hS : ¬ S b) {cs : Array Value} {t : TypeId} (h : W.heap[b]? = some (.cells cs t (0, 0))) : p.v.frozen? ⟨b, i, none⟩ = false :=
  unfrozen_of_block ((p.h.block b hb hS).trans h) i

/-- A number is appended, where the order is open. -/
theorem wp_push_n {o : Oper} {a : Act} {K : Act → World → Prop} {Q : Exit → Act → World → Prop} (w : World) (s x : Operand)
    (ho : o.op = .call { callee := .builtin .append, args := #[s, x], argTypes := #[27, 27] })
    (B : Nat) (v : Value) (l : List Nat) (hs : a.eval s = v) (hown : OwnN B w v l) (g : Nat) (hx : a.eval x = .slice (some ⟨g, 0, none⟩) 1 1)
    (n : Nat) (hcell : w.cell? ⟨g, 0, none⟩ = some (.int .i64 (n : Int))) (hB : B ≤ w.heap.size) (hlen : l.length ≤ 1000000)
    (h : ∀ v' w', Hid (OwnN B w' v' (l ++ [n])) → Hid (w.grownBy w' v.ownBlock) → Hid (v'.ownBlock = v.ownBlock ∨ v'.ownBlock = some w.heap.size) → K (a.put o.dst v') w') : o.wp Try.prog a w K Q := by
  obtain ⟨i0, hi, hz0, hz1, hz2⟩ := info_q infoI
  obtain ⟨v', w', hr, h1, h2, -, h5⟩ := run_append_own_at (P := Try.prog) w B 27 o.type 3 i0 (.int .i64 0) 1 8 Try.underlying27 hi hz0 hz1 hz2 rfl (by decide) v l.length _ hown ⟨g, 0, none⟩ 1 1 [.int .i64 (n : Int)] rfl (one_here hcell) (by simp [Value.oneCell']) (by unfold maxLen; omega) (by omega) hB
  unfold Oper.wp execOp
  simp only [ho, resolve, invoke, builtin, Sem.run_bind, Sem.run_pure, Result.andThen_ok, List.map_toArray, List.map_cons, List.map_nil, hs, hx, hr]
  refine h v' w' ?_ h2 h5
  show OwnN B w' v' (l ++ [n])
  unfold OwnN
  rw [List.length_append]
  simpa [encN] using h1
end Go.Proofs.Yticppgopblgkbaa
