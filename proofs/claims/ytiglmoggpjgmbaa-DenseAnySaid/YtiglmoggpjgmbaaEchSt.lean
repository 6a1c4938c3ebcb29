/-
  What package dense's echelon has in memory.
-/
import Derived.Test.YtiglmoggpjgmbaaLinesW
namespace Go.Proofs.Ytiglmoggpjgmbaa
open Go.ChangeShapes Go.WideShapes Go.ChangeAt Go.RowKit Go.Joins
set_option linter.unusedVariables false

theorem own_fr {X : Nat → Prop} {w w' : World} {B e s n : Nat} {v : Value} {xs : List Value} (h : w.ownsRow B e s v n xs) (k : Fr X w w') (hX : ∀ b, B ≤ b → ¬ X b) : w'.ownsRow B e s v n xs := by
  refine ⟨h.1, ?_⟩
  rcases h.2 with h0 | ⟨g, cap, cur, h1, h2, h3, h4⟩
  · exact .inl h0
  · exact .inr ⟨g, cap, cur, h1, h2, (k.block g (Array.getElem?_eq_some_iff.1 h3).1 (hX g h2)).trans h3, h4⟩
theorem own_form {w : World} {B n : Nat} {v : Value} {xs : List LV} (h : w.ownsRow B 48 3 v n (enc3 xs)) : ∃ a cap, v = .slice a n cap ∧ cap ≤ maxLen ∧ n ≤ cap ∧ LS w a xs ∧ n = xs.length := by
  have hl : n = xs.length := by have := h.1; rw [enc3_len] at this; omega
  subst hl
  rcases h.2 with ⟨rfl, hn⟩ | ⟨g, cap, cur, rfl, hb, hh, h1, h2, h3, h4⟩
  · have : xs = [] := List.eq_nil_of_length_eq_zero hn
    subst this
    exact ⟨none, 0, rfl, by simp, by simp, .inl rfl, rfl⟩
  · refine ⟨_, cap, rfl, h2, h1, .inr ⟨g, cur, rfl, hh, fun i hi => ?_⟩, rfl⟩
    obtain ⟨e0, e1, e2⟩ := enc3_get hi
    have key : ∀ j v, (enc3 xs)[j]? = some v → cur[j]? = some v := fun j v hv => by
      rw [← h4, List.getElem?_take] at hv
      split at hv
      · simpa using hv
      · cases hv
    exact ⟨hh, key _ _ e0, key _ _ e1, key _ _ e2⟩
theorem own_block_ne {w : World} {B n b : Nat} {v : Value} {xs : List Value} {m : List Nat} (h : w.ownsRow B 48 3 v n xs) (hb : BlkB w b m) : v.ownBlock ≠ some b := fun e => by
  rcases h.2 with ⟨rfl, _⟩ | ⟨g, cap, cur, rfl, _, hh, _⟩
  · simp [Value.ownBlock] at e
  · have : g = b := by simpa [Value.ownBlock] using e
    subst this
    have h1 : w.heap[g]? = _ := hb
    rw [hh] at h1
    injection h1 with h1
    injection h1 with _ h1 _
    cases h1

theorem insAt_map {α β : Type} (f : α → β) (l : List α) (i : Nat) (x : α) : (insAt l i x).map f = insAt (l.map f) i (f x) := by simp [insAt, List.map_take, List.map_drop]
theorem runAll_snoc : ∀ (t : List St) (l : Ln) (s : St), runAll l (t ++ [s]) = cancelN (runAll l t) s
  | [], _, _ => rfl
  | x :: t, l, s => runAll_snoc t (cancelN l x) s

/-- What the elimination has in memory when k lines are done; the rows of the first f may have changed. -/
structure ESt (M N : Nat) (W0 : World) (ps : List (LV × Ln)) (k f : Nat) (wr : World) (v : Value) (ys : List (LV × St)) (zs : List Ln) : Prop where
  fr : Fr (fun b => ∃ p ∈ ps.take f, b = p.1.rb) W0 wr
  own : wr.ownsRow W0.heap.size 48 3 v ys.length (enc3 (ys.map (·.1)))
  steps : ∀ y ∈ ys, LineAt wr y.1 y.2.1 ∧ y.1.ld = (y.2.2 : Int) ∧ W0.heap.size ≤ y.1.rb ∧ W0.heap.size ≤ y.1.gb
  inv : Inv M N ((ps.take k).map (·.2)) (ys.map (·.2)) zs

section
variable {M N B0 : Nat} {W0 wr wr' : World} {ps : List (LV × Ln)} {k f f' : Nat} {v : Value} {ys : List (LV × St)} {zs : List Ln}
theorem take_mem {α : Type} {l : List α} {i j : Nat} (h : i ≤ j) {x : α} (hx : x ∈ l.take i) : x ∈ l.take j := by
  rw [show i = min i j by omega, ← List.take_take] at hx
  exact List.mem_of_mem_take hx
theorem ESt.start (M N : Nat) (W0 : World) (ps : List (LV × Ln)) : ESt M N W0 ps 0 0 W0 (.slice none 0 0) [] [] :=
  ⟨Fr.refl _ _, World.ownsRow_nil _ _ _ _, by simp, by simpa using Inv.start M N⟩
theorem rb_lt (L : Lns B0 W0 ps) {f b : Nat} (h : ∃ p ∈ ps.take f, b = p.1.rb) : b < W0.heap.size := by
  obtain ⟨p, hp, rfl⟩ := h
  exact (L.lt p (List.mem_of_mem_take hp)).1
theorem ESt.later (h : ESt M N W0 ps k f wr v ys zs) (L : Lns B0 W0 ps) (hf : f ≤ f') (hw : Fr (fun b => ∃ p ∈ ps.take f', b = p.1.rb) wr wr') : ESt M N W0 ps k f' wr' v ys zs := by
  have hX : ∀ b, W0.heap.size ≤ b → ¬ ∃ p ∈ ps.take f', b = p.1.rb := fun b hb e => by have := rb_lt L e; omega
  refine ⟨(h.fr.mono fun b _ ⟨p, hp, e⟩ => ⟨p, take_mem hf hp, e⟩).trans hw, own_fr h.own hw hX, fun y hy => ?_, h.inv⟩
  obtain ⟨h1, h2, h3, h4⟩ := h.steps y hy
  exact ⟨h1.fr hw (hX _ h3) (hX _ h4), h2, h3, h4⟩
theorem ESt.below (h : ESt M N W0 ps k f wr v ys zs) (L : Lns B0 W0 ps) (hw : Below wr.heap.size wr wr') : ESt M N W0 ps k f wr' v ys zs := h.later L (Nat.le_refl _) (Fr.of_below hw)
theorem ESt.boxed (h : ESt M N W0 ps k f wr v ys zs) (L : Lns B0 W0 ps) (hf : f ≤ f') {B o : Nat} {cs : Array Value} {x : LV} (hc : Cells3 wr B o 48 cs x) (hB : W0.heap.size ≤ B) (hv : v.ownBlock ≠ some B) (hw : Fr (fun b => (∃ p ∈ ps.take f', b = p.1.rb) ∨ b = B) wr wr') : ESt M N W0 ps k f' wr' v ys zs := by
  have hX : ∀ b, W0.heap.size ≤ b → b ≠ B → ¬ ((∃ p ∈ ps.take f', b = p.1.rb) ∨ b = B) := fun b hb hne e => by
    rcases e with e | e
    · have := rb_lt L e; omega
    · exact hne e
  refine ⟨⟨hw.os.trans h.fr.os, hw.tape.trans h.fr.tape, hw.output.trans h.fr.output, Nat.le_trans h.fr.size hw.size, fun b hb hx => ?_⟩, ?_, fun y hy => ?_, h.inv⟩
  · rw [hw.block b (Nat.lt_of_lt_of_le hb h.fr.size) (fun e => e.elim hx fun e => by omega)]
    exact h.fr.block b hb fun ⟨p, hp, e⟩ => hx ⟨p, take_mem hf hp, e⟩
  · refine ⟨h.own.1, ?_⟩
    rcases h.own.2 with h0 | ⟨g, cap, cur, rfl, h2, h3, h4⟩
    · exact .inl h0
    · refine .inr ⟨g, cap, cur, rfl, h2, (hw.block g (Array.getElem?_eq_some_iff.1 h3).1 (hX g h2 fun e => ?_)).trans h3, h4⟩
      exact hv (by simp [Value.ownBlock, e])
  · obtain ⟨h1, h2, h3, h4⟩ := h.steps y hy
    exact ⟨h1.fr hw (hX _ h3 (Ne.symm (hc.ne h1.row))) (hX _ h4 (Ne.symm (hc.ne h1.right))), h2, h3, h4⟩
theorem ESt.line (h : ESt M N W0 ps k f wr v ys zs) (L : Lns B0 W0 ps) {i : Nat} (hi : i < ps.length) (hf : f ≤ i) : LineAt wr ps[i].1 ps[i].2 := by
  refine (L.line _ (List.getElem_mem hi)).fr h.fr (fun ⟨p, hp, e⟩ => ?_) (fun ⟨p, hp, e⟩ => ?_)
  · obtain ⟨j, hj, rfl⟩ := List.getElem_of_mem hp
    rw [List.length_take] at hj
    rw [List.getElem_take] at e
    have := (List.nodup_iff_pairwise_ne.1 L.rows)
    have := (List.pairwise_iff_getElem.1 this) j i (by simp; omega) (by simpa using hi) (by omega)
    simp only [List.getElem_map] at this
    exact this e.symm
  · exact L.rights _ (List.getElem_mem hi) p (List.mem_of_mem_take hp) e
theorem ESt.whole (h : ESt M N W0 ps k f wr v ys zs) (L : Lns B0 W0 ps) {g : Nat} {cs : Array Value} (hg : W0.heap[g]? = some (.cells cs 48 (0, 0))) : wr.heap[g]? = some (.cells cs 48 (0, 0)) := by
  rw [h.fr.block g (Array.getElem?_eq_some_iff.1 hg).1 fun ⟨p, hp, e⟩ => ?_]
  · exact hg
  · have hb : BlkB W0 p.1.rb p.2.row := (L.line p (List.mem_of_mem_take hp)).row
    have h1 : W0.heap[p.1.rb]? = _ := hb
    rw [← e, hg] at h1
    injection h1 with h1
    injection h1 with _ h1 _
    cases h1
theorem take_snoc' {α : Type} {l : List α} {k : Nat} (h : k < l.length) : l.take (k + 1) = l.take k ++ [l[k]] := List.take_succ_eq_append_getElem h
/-- A line of which nothing is left. -/
theorem ESt.zero (h : ESt M N W0 ps k (k + 1) wr v ys zs) (hk : k < ps.length) (hl : OkL M ps[k].2) (hn : ps[k].2.row.length ≤ N) (hlong : ∀ j (hj : j < ps.length), j < k → ps[j].2.row.length ≤ ps[k].2.row.length)
    (hz : rvec (runAll ps[k].2 (ys.map (·.2))) = V.zero) : ESt M N W0 ps (k + 1) (k + 1) wr v ys (zs ++ [runAll ps[k].2 (ys.map (·.2))]) := by
  refine ⟨h.fr, h.own, h.steps, ?_⟩
  rw [take_snoc' hk, List.map_append]
  refine h.inv.none hl hn (fun d hd => ?_) hz
  obtain ⟨p, hp, rfl⟩ := List.mem_map.1 hd
  obtain ⟨j, hj, rfl⟩ := List.getElem_of_mem hp
  rw [List.length_take] at hj
  rw [List.getElem_take]
  exact hlong j (by omega) (by omega)
/-- A line that became a step. -/
theorem ESt.step {w2 : World} {v2 : Value} {y : LV} {p i : Nat} (h : ESt M N W0 ps k (k + 1) wr v ys zs) (hk : k < ps.length) (hl : OkL M ps[k].2) (hn : ps[k].2.row.length ≤ N) (hlong : ∀ j (hj : j < ps.length), j < k → ps[j].2.row.length ≤ ps[k].2.row.length)
    (hp : p < (runAll ps[k].2 (ys.map (·.2))).row.length) (hnz : (runAll ps[k].2 (ys.map (·.2))).row.getD p 0 ≠ 0) (hfz : ∀ j, j < p → (runAll ps[k].2 (ys.map (·.2))).row.getD j 0 = 0)
    (hil : i ≤ ys.length) {xs : List LV} (hxs : xs = ys.map (·.1)) (hi1 : ∀ j (hj : j < xs.length), j < i → xs[j].ld < (p : Int)) (hi2 : ∀ j (hj : j < xs.length), i ≤ j → (p : Int) ≤ xs[j].ld)
    (hy : LineAt wr y (sclL (runAll ps[k].2 (ys.map (·.2))) (invN ((runAll ps[k].2 (ys.map (·.2))).row.getD p 0)))) (hld : y.ld = (p : Int)) (hr : W0.heap.size ≤ y.rb) (hg : W0.heap.size ≤ y.gb)
    (hown : w2.ownsRow W0.heap.size 48 3 v2 (ys.length + 1) (enc3 (insAt (ys.map (·.1)) i y))) (hgr : wr.grownBy w2 v.ownBlock) :
    ESt M N W0 ps (k + 1) (k + 1) w2 v2 (insAt ys i (y, (sclL (runAll ps[k].2 (ys.map (·.2))) (invN ((runAll ps[k].2 (ys.map (·.2))).row.getD p 0)), p))) zs := by
  subst hxs
  have hlt : ∀ j (hj : j < ys.length), ys[j].1.ld = (ys[j].2.2 : Int) := fun j hj => (h.steps _ (List.getElem_mem hj)).2.1
  have kept : ∀ b m, BlkB wr b m → BlkB w2 b m := fun b m hb => (hgr.block b hb.lt fun e => own_block_ne h.own hb e.symm).trans hb
  have ow : ∀ b, b < W0.heap.size → some b ≠ v.ownBlock := fun b hb e => by
    rcases h.own.2 with ⟨rfl, _⟩ | ⟨g, cap, cur, rfl, h1, _⟩
    · simp [Value.ownBlock] at e
    · have : b = g := by simpa [Value.ownBlock] using e
      omega
  refine ⟨⟨hgr.os.trans h.fr.os, hgr.tape.trans h.fr.tape, hgr.output.trans h.fr.output, Nat.le_trans h.fr.size hgr.size, fun b hb hx => ?_⟩, ?_, fun z hz => ?_, ?_⟩
  · rw [hgr.block b (Nat.lt_of_lt_of_le hb h.fr.size) (ow b hb)]
    exact h.fr.block b hb hx
  · rw [insAt_length _ _ _ hil, insAt_map]; exact hown
  · rcases mem_insAt.1 hz with rfl | hz
    · exact ⟨⟨kept _ _ hy.row, hy.rl, kept _ _ hy.right, hy.gl⟩, hld, hr, hg⟩
    · obtain ⟨h1, h2, h3, h4⟩ := h.steps z hz
      exact ⟨⟨kept _ _ h1.row, h1.rl, kept _ _ h1.right, h1.gl⟩, h2, h3, h4⟩
  · rw [take_snoc' hk, List.map_append, insAt_map]
    refine h.inv.some hl hn (fun d hd => ?_) hp hnz hfz (fun j hj hji => ?_) (fun j hj hji => ?_)
    · obtain ⟨q, hq, rfl⟩ := List.mem_map.1 hd
      obtain ⟨j, hj, rfl⟩ := List.getElem_of_mem hq
      rw [List.length_take] at hj
      rw [List.getElem_take]
      exact hlong j (by omega) (by omega)
    · rw [List.length_map] at hj
      have := hi1 j (by rw [List.length_map]; exact hj) hji
      simp only [List.getElem_map] at this ⊢
      rw [hlt j hj] at this
      omega
    · rw [List.length_map] at hj
      have := hi2 j (by rw [List.length_map]; exact hj) hji
      simp only [List.getElem_map] at this ⊢
      rw [hlt j hj] at this
      omega
end
def LV.lead (x : LV) (p : Int) : LV := ⟨x.rb, x.rl, x.gb, x.gl, p⟩
theorem Cells3.set2 {w : World} {B o : Nat} {T : TypeId} {cs : Array Value} {x : LV} (h : Cells3 w B o T cs x) (p : Int) :
    Cells3 (w.setCell ⟨B, o + 2, none⟩ (.int .i64 p)) B o T (cs.setIfInBounds (o + 2) (.int .i64 p)) (x.lead p) := by
  have h1 := (Array.getElem?_eq_some_iff.1 h.c2).1
  refine ⟨block_setCell h.blk _, ?_, ?_, ?_⟩
  · rw [Array.getElem?_setIfInBounds_ne (by omega)]; exact h.c0
  · rw [Array.getElem?_setIfInBounds_ne (by omega)]; exact h.c1
  · simp [h1, LV.lead]
/-- The line that is worked on lies in block B. -/
structure Work (w : World) (B : Nat) (x : LV) (r : Nat) (l : Ln) (cs : Array Value) : Prop where
  cells : Cells3 w B 0 48 cs x
  line : LineAt w x l
  rb : x.rb = r
  ne : x.gb ≠ r
theorem Work.below {w w' : World} {B r : Nat} {x : LV} {l : Ln} {cs : Array Value} (h : Work w B x r l cs) (k : Below w.heap.size w w') : Work w' B x r l cs := ⟨h.cells.below k, h.line.below k, h.rb, h.ne⟩
theorem own_ne_new {w : World} {B e s n : Nat} {v : Value} {xs : List Value} (h : w.ownsRow B e s v n xs) : v.ownBlock ≠ some w.heap.size := fun e' => by
  rcases h.2 with ⟨rfl, _⟩ | ⟨g, cap, cur, rfl, _, hh, _⟩
  · simp [Value.ownBlock] at e'
  · have : g = w.heap.size := by simpa [Value.ownBlock] using e'
    have := (Array.getElem?_eq_some_iff.1 hh).1
    omega
end Go.Proofs.Ytiglmoggpjgmbaa
