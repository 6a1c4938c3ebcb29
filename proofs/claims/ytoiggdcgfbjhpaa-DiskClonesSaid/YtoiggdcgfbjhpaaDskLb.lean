/-
  Disks beside one another; the law DiskSafe, walked.
-/
import Derived.Test.YtoiggdcgfbjhpaaDskLa
namespace Go.Proofs.Ytoiggdcgfbjhpaa
open Go.ChangeShapes Go.WideShapes Go.ChangeAt Go.RowKit Go.Joins
set_option linter.unusedVariables false

/-- Two disks that share no block. -/
def Apart (B : Nat) (g : Gh) (C : Nat) (gC : Gh) : Prop := ∀ k, Foot B g k → ¬ Foot C gC k
theorem Apart.symm {B C : Nat} {g gC : Gh} (h : Apart B g C gC) : Apart C gC B g := fun k h1 h2 => h k h2 h1
/-- What one does leaves the other as it is. -/
theorem Rep.beside {w w' : World} {B C : Nat} {SC : St} {g g' gC : Gh} (hc : Rep w C SC gC) (ha : Apart B g C gC) (f : Fr (Foot B g) w w') (q : ∀ k, Foot B g' k → Foot B g k ∨ w.heap.size ≤ k) : Rep w' C SC gC ∧ Apart B g' C gC := by
  refine ⟨hc.fr f fun k h1 h2 => ha k h2 h1, fun k h1 h2 => ?_⟩
  rcases q k h1 with e | e
  · exact ha k e h2
  · have := hc.foot_lt h2; omega
theorem Ks.below {w w' : World} {a : Option Addr} {cap : Nat} {ks : List Int} (h : Ks w a cap ks) (hb : Below w.heap.size w w') : Ks w' a cap ks := by
  refine ⟨h.rng, h.len, h.most, h.none, ?_⟩
  rcases h.here with h0 | ⟨b, off, e, hc⟩
  · exact .inl h0
  · exact .inr ⟨b, off, e, fun i hi => (hb.cell (p := ⟨b, off + i, Option.none⟩) (World.block_lt_of_cell? w _ (hc i hi))).trans (hc i hi)⟩

/-- A disk in the law's own memory. -/
structure Mem (W w : World) (B : Nat) (S : St) (g : Gh) : Prop where
  rep : Rep w B S g
  low : Below W.heap.size W w
  foot : ∀ k, Foot B g k → W.heap.size ≤ k
theorem Mem.did {W w w' : World} {B : Nat} {S S' : St} {g g' : Gh} (h : Mem W w B S g) (r : Rep w' B S' g') (f : Fr (Foot B g) w w') (q : ∀ k, Foot B g' k → Foot B g k ∨ w.heap.size ≤ k) : Mem W w' B S' g' := by
  refine ⟨r, h.low.trans (f.below h.low.size fun k hk e => ?_), fun k hk => ?_⟩
  · have := h.foot k e; omega
  · rcases q k hk with e | e
    · exact h.foot k e
    · exact Nat.le_trans h.low.size e
theorem Mem.later {W w w' : World} {B : Nat} {S : St} {g : Gh} (h : Mem W w B S g) (hb : Below w.heap.size w w') : Mem W w' B S g := ⟨h.rep.later hb, h.low.trans (hb.mono h.low.size), h.foot⟩
theorem Mem.new {W w : World} {cap : Int} (hl : Below W.heap.size W w) {w' : World} (r : Rep w' w.heap.size (newSt cap) newGh) (hb : Below w.heap.size w w') : Mem W w' w.heap.size (newSt cap) newGh :=
  ⟨r, hl.trans (hb.mono hl.size), fun k hk => by have := newFoot hk; have := hl.size; omega⟩
theorem Mem.far {W w : World} {B : Nat} {S : St} {g : Gh} (h : Mem W w B S g) {a : Option Addr} {cap : Nat} {ks : List Int} (hk : Ks W a cap ks) : ∀ p, a = some p → ks ≠ [] → ¬ Foot B g p.block := fun p hp hl hf => by
  have := hk.blk hp hl
  have := h.foot _ hf
  omega
/-- Do, one act of a list that came in. -/
theorem do_one {W w : World} {B : Nat} {g : Gh} {l : List ActV} {k : Nat} {S : St} (h : Mem W w B (runS l S k) g) (hI : Inv S) (hx : ∀ x ∈ l, ActOk W x) (hk : k < l.length) (hst : S.steps + l.length ≤ 900) (htot : S.tot + sizeAll l ≤ 900000) :
    Calls Try.prog 8 #[.pointer (some ⟨B, 0, none⟩), .agg #[.int .u8 (l[k].kind : Int), .string l[k].a, .string l[k].b, .int .i64 l[k].n, .slice l[k].da l[k].data.length l[k].dc, .slice l[k].ka l[k].ks.length l[k].kc]] w fun e w' => e = .returned (.int .i64 (doS l[k].act (runS l S k)).1) ∧ Did B (runS l S (k + 1)) g w w' := by
  obtain ⟨h1, h2, h3⟩ := run_inv hI hx k (by omega)
  have h4 := sizeAll_take_le l (k + 1)
  rw [sizeAll_take l k hk] at h4
  have h5 : l[k].data.length ≤ l[k].size := by unfold ActV.size; omega
  rw [runS_succ hk]
  exact do_any h.rep h1 (by omega) h.low h.foot l[k] (hx _ (List.getElem_mem hk)) (by omega)

theorem bytes_ok {S : St} {s : ByteArray} (h1 : S.d.lost = false) (h2 : S.d.gs = false) (h3 : numD S.Dn s ≠ -1) : bytesS s S = (strOf (S.F (numD S.Dn s).toNat).bytes, 0) := by
  have hr : readS s S = (0, faultS S) := by
    unfold readS
    rw [if_neg (by rw [h1]; decide), if_neg h3, if_neg (by rw [h2]; unfold dueD; simp)]
  unfold bytesS
  rw [hr]
  simp only [show ¬ ((0 : Int) = 10) by decide, if_false]
  unfold readL
  rw [hr]
  simp
end Go.Proofs.Ytoiggdcgfbjhpaa
