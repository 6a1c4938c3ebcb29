/-
  Rows of packets, cut and put together.
-/
import Derived.Test.YtechekkojinkmaaDoorMp30
section
namespace Go.Proofs.YtechekkojinkmaaDoor
open Go.ChangeShapes Go.WideShapes Go.ChangeAt Go.RowKit Go.Joins
set_option linter.unusedVariables false

theorem elemPk : Tryd.prog.elem 26 = 44 := by kernel_rfl
theorem undPks : Tryd.prog.underlying 26 = some (.slice (Tryd.prog.elem 26)) := by rw [elemPk]; exact Tryd.underlying26
theorem sizePk (w : World) : (sizeOf 44).run Tryd.prog w = .ok 51 w := by kernel_rfl
theorem pk_from (g N cv k : Nat) (hk : k ≤ N) (hN : N ≤ cv) : ∃ off c, (∀ W, (Instr.slice 26 (.slice (some ⟨g, 0, none⟩) N cv) (some (.int .i64 (k : Int))) none none).run Tryd.prog W = .ok (.slice (some ⟨g, off, none⟩) (N - k) c) W) ∧ (k < N → off = k * 51) := by
  refine ⟨if cv = k then 0 else k * 51, cv - k, fun W => ?_, fun h => by rw [if_neg (by omega)]⟩
  rw [run_slice_l W 26 (some ⟨g, 0, none⟩) N cv undPks .i64 _ (by omega) (by omega), elemPk, sizePk]
  simp only [Result.andThen, sliced, Int.toNat_natCast]
  by_cases e : cv = k
  · simp [e]
  · simp [e, addr_add]
theorem pk_upto (g N cv k : Nat) (hk : k ≤ cv) : ∀ W, (Instr.slice 26 (.slice (some ⟨g, 0, none⟩) N cv) none (some (.int .i64 (k : Int))) none).run Tryd.prog W = .ok (.slice (some ⟨g, 0, none⟩) k cv) W := fun W => by
  rw [run_slice_h W 26 (some ⟨g, 0, none⟩) N cv undPks .i64 _ (by omega) (by omega), elemPk, sizePk]
  simp [Result.andThen, sliced, Addr.add]
/-- A row that is being put together, all of it newer than w9. -/
structure Prw (w9 wr : World) (v : Value) (G : List Pw) : Prop where
  own : OwnP w9.heap.size wr v G
  below : Below w9.heap.size w9 wr
theorem Prw.later {w9 wr w' : World} {v : Value} {G : List Pw} (h : Prw w9 wr v G) (k : Below wr.heap.size wr w') : Prw w9 w' v G := ⟨h.own.kept k, h.below.trans (k.mono h.below.size)⟩
theorem Prw.push {w9 wr w' : World} {v v' : Value} {F G : List Pw} (h : Prw w9 wr v F) (ho : OwnP w9.heap.size w' v' (F ++ G)) (k : wr.grownBy w' v.ownBlock) : Prw w9 w' v' (F ++ G) :=
  ⟨ho, h.below.trans ((Fr.of_grown (X := fun b => v.ownBlock = some b) k fun b hb => hb).below h.below.size fun j hj hv => by have := (h.own.at hv).1; omega)⟩
theorem Prw.empty (w9 wd : World) (hb : Below w9.heap.size w9 wd) : Prw w9 (wd.alloc (.cells #[] 44)) (.slice (some ⟨wd.heap.size, 0, none⟩) 0 0) [] := by
  have h1 : Below wd.heap.size wd (wd.alloc (.cells #[] 44)) := (Below.refl _ _).alloc (Nat.le_refl _) _
  exact ⟨⟨rfl, .inr ⟨wd.heap.size, 0, #[], rfl, hb.size, heap_alloc_last wd _, Nat.le_refl _, by unfold maxLen; omega, rfl, rfl⟩⟩, hb.trans (h1.mono hb.size)⟩
theorem Prw.sl {w9 wr : World} {a : Option Addr} {c : Nat} {G : List Pw} (h : Prw w9 wr (.slice a G.length c) G) (hp : ∀ f ∈ G, PkAt w9 f.p f.sa f.sc f.da f.dc) : PkSl wr a c G := by
  obtain ⟨a', c', e, h1, h2⟩ := h.own.slice
  cases e
  refine ⟨h1, h2, ?_, fun f hf => (hp f hf).below h.below⟩
  cases G with
  | nil => exact .inl rfl
  | cons x l =>
    right
    obtain ⟨g, e, hg, _⟩ := h.own.cells (i := 0) (by simp)
    refine ⟨g, 0, e, hg, fun i hi k hk => ?_⟩
    obtain ⟨g', e', _, hc⟩ := h.own.cells hi
    rw [e] at e'
    cases e'
    rw [Nat.zero_add]
    exact hc k hk
end Go.Proofs.YtechekkojinkmaaDoor
end
