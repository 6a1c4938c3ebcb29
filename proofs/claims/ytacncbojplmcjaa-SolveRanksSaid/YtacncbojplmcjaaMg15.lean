/-
  A bench in memory: rows, deeds and steps.
  A bench's add and scale.
  A bench's scale and cancel.
-/
import Derived.Test.YtacncbojplmcjaaMg14
section
namespace Go.Proofs.Ytacncbojplmcjaa
open Go.ChangeShapes Go.WideShapes Go.ChangeAt Go.RowKit Go.Joins
set_option linter.unusedVariables false

def oneD (d : Nat × Nat × Nat) : List Value := [.int .i64 (d.1 : Int), .int .i64 (d.2.1 : Int), .int .u8 (d.2.2 : Int)]
def encD (D : Dz) : List Value := D.flatMap oneD
theorem encD_len : ∀ D : Dz, (encD D).length = D.length * 3
  | [] => rfl
  | x :: l => by
    have := encD_len l
    unfold encD at this ⊢
    simp only [List.flatMap_cons, List.length_append, this, List.length_cons]
    simp [oneD]; omega
theorem encD_app (l m : Dz) : encD (l ++ m) = encD l ++ encD m := by simp [encD]
theorem encD_get {l : Dz} : ∀ {i : Nat} (h : i < l.length), (encD l)[i * 3]? = some (.int .i64 ((l[i].1 : Nat) : Int)) ∧ (encD l)[i * 3 + 1]? = some (.int .i64 ((l[i].2.1 : Nat) : Int)) ∧ (encD l)[i * 3 + 2]? = some (.int .u8 ((l[i].2.2 : Nat) : Int)) := by
  induction l with
  | nil => intro i h; simp at h
  | cons x l ih =>
    intro i h
    have e : encD (x :: l) = oneD x ++ encD l := rfl
    rw [e]
    have hl : (oneD x).length = 3 := rfl
    cases i with
    | zero => exact ⟨rfl, rfl, rfl⟩
    | succ i =>
      have := ih (i := i) (by simpa using h)
      simp only [List.getElem_cons_succ]
      refine ⟨?_, ?_, ?_⟩
      · rw [List.getElem?_append_right (by omega), show (i + 1) * 3 - (oneD x).length = i * 3 by omega]; exact this.1
      · rw [List.getElem?_append_right (by omega), show (i + 1) * 3 + 1 - (oneD x).length = i * 3 + 1 by omega]; exact this.2.1
      · rw [List.getElem?_append_right (by omega), show (i + 1) * 3 + 2 - (oneD x).length = i * 3 + 2 by omega]; exact this.2.2
/-- A row of deeds that is made by append. -/
def OwnD (B : Nat) (w : World) (v : Value) (D : Dz) : Prop := w.ownsRow B 44 3 v D.length (encD D)
theorem OwnD.nil (B : Nat) (w : World) : OwnD B w (.slice none 0 0) [] := World.ownsRow_nil _ _ _ _
/-- The first ones of them. -/
theorem OwnD.take {B : Nat} {w : World} {a : Option Addr} {c : Nat} {D D' : Dz} (h : OwnD B w (.slice a (D ++ D').length c) (D ++ D')) : OwnD B w (.slice a D.length c) D := by
  refine ⟨encD_len D, ?_⟩
  rcases h.2 with ⟨h1, h2⟩ | ⟨g, cap, cur, h1, h2, h3, h4, h5, h6, h7⟩
  · injection h1 with e1 e2 e3
    refine .inl ⟨?_, by rw [List.length_append] at h2; omega⟩
    rw [e1, e3, show D.length = 0 by rw [List.length_append] at h2; omega]
  · injection h1 with e1 e2 e3
    rw [List.length_append] at h4 h7
    refine .inr ⟨g, cap, cur, by rw [e1, e3], h2, h3, by omega, h5, h6, ?_⟩
    have h8 := congrArg (List.take (D.length * 3)) h7
    have hmin : min (D.length * 3) ((D.length + D'.length) * 3) = D.length * 3 := by
      have : D.length * 3 ≤ (D.length + D'.length) * 3 := by omega
      omega
    rw [List.take_take, hmin, encD_app, List.take_append_of_le_length (by rw [encD_len]; exact Nat.le_refl _), List.take_of_length_le (l := encD D) (by rw [encD_len]; exact Nat.le_refl _)] at h8
    exact h8
theorem infoD : (Try.prog.info? 44).map (fun i => (i.zero, i.size, i.bytes)) = some (some (.agg #[.int .i64 0, .int .i64 0, .int .u8 0]), 3, 24) := by kernel_rfl
/-- A deed is appended. -/
theorem wpList_push_d {ops : Array Oper} {rest : List Oper} {o : Oper} {a : Act} {Q : Exit → Act → World → Prop} (w : World) (hgd : o.guard = none) (s x : Operand)
    (ho : o.op = .call { callee := .builtin .append, args := #[s, x], argTypes := #[28, 28] })
    (B : Nat) (v : Value) (l : Dz) (hs : a.eval s = v) (hown : OwnD B w v l) (g : Nat) (hx : a.eval x = .slice (some ⟨g, 0, none⟩) 1 1)
    (t f c : Nat) (h0 : w.cell? ⟨g, 0, none⟩ = some (.int .i64 (t : Int))) (h1 : w.cell? ⟨g, 1, none⟩ = some (.int .i64 (f : Int))) (h2 : w.cell? ⟨g, 2, none⟩ = some (.int .u8 (c : Int))) (hB : B ≤ w.heap.size) (hlen : l.length ≤ 1000000)
    (h : ∀ v' w', Hid (OwnD B w' v' (l ++ [(t, f, c)])) → Hid (w.grownBy w' v.ownBlock) → Hid (v'.ownBlock = v.ownBlock ∨ v'.ownBlock = some w.heap.size) → wpList Try.prog ops Q rest (a.put o.dst v') w') : wpList Try.prog ops Q (o :: rest) a w := by
  obtain ⟨i0, hi, hz0, hz1, hz2⟩ := info_q infoD
  have hn : ∀ j u, (oneD (t, f, c))[j]? = some u → w.cell? ((⟨g, 0, none⟩ : Addr).add j) = some u := fun j u hj => by
    match j, hj with
    | 0, hj => simp [oneD] at hj; subst hj; simpa [Addr.add] using h0
    | 1, hj => simp [oneD] at hj; subst hj; simpa [Addr.add] using h1
    | 2, hj => simp [oneD] at hj; subst hj; simpa [Addr.add] using h2
    | j + 3, hj => simp [oneD] at hj
  refine wpList_append_own_at w hgd s x 28 ho B 44 i0 (.agg #[.int .i64 0, .int .i64 0, .int .u8 0]) 3 24 Try.underlying28 hi hz0 hz1 hz2 rfl (by decide) v l.length _ hs hown ⟨g, 0, none⟩ 1 1 (oneD (t, f, c)) hx rfl hn (by simp [oneD, Value.oneCell']) (by unfold maxLen; omega) (by omega) hB ?_
  intro v' w' k1 k2 _ k5
  refine h v' w' ?_ k2 k5
  show OwnD B w' v' (l ++ [(t, f, c)])
  unfold OwnD
  rw [List.length_append, encD_app]
  simpa [encD] using k1
/-- As one reads it. -/
theorem OwnD.dr {B : Nat} {w : World} {a : Option Addr} {c : Nat} {D : Dz} (h : OwnD B w (.slice a D.length c) D) : Dr w a c D := by
  rcases h.2 with ⟨h1, h2⟩ | ⟨g, cap, cur, h1, h2, h3, h4, h5, h6, h7⟩
  · injection h1 with e1 e2 e3
    exact ⟨by omega, by omega, .inl (List.length_eq_zero_iff.1 h2)⟩
  · injection h1 with e1 e2 e3
    subst e3
    have hlt := (Array.getElem?_eq_some_iff.1 h3).1
    have key : ∀ i (h : i < D.length) (k : Nat), k < 3 → w.cell? ⟨g, i * 3 + k, none⟩ = (encD D)[i * 3 + k]? := fun i hi k hk => by
      rw [cell_of_block h3, ← h7, List.getElem?_take_of_lt (by omega), Array.getElem?_toList]
    refine ⟨h4, h5, .inr ⟨g, 0, e1, hlt, fun i hi => ?_⟩⟩
    obtain ⟨k0, k1, k2⟩ := encD_get hi
    rw [Nat.zero_add]
    exact ⟨(key i hi 0 (by omega)).trans k0, (key i hi 1 (by omega)).trans k1, (key i hi 2 (by omega)).trans k2⟩
/-- A pivot of a row of them. -/
theorem OwnV.cells {B : Nat} {w : World} {a : Option Addr} {c : Nat} {P : List (Nat × Nat)} (h : OwnV B w (.slice a P.length c) P) {i : Nat} (hi : i < P.length) :
    ∃ g, a = some ⟨g, 0, none⟩ ∧ B ≤ g ∧ g < w.heap.size ∧ w.cell? ⟨g, i * 2, none⟩ = some (.int .i64 ((P[i].1 : Nat) : Int)) ∧ w.cell? ⟨g, i * 2 + 1, none⟩ = some (.int .i64 ((P[i].2 : Nat) : Int)) := by
  rcases h.2 with ⟨h1, h2⟩ | ⟨g, cap, cur, h1, h2, h3, h4, h5, h6, h7⟩
  · omega
  · injection h1 with e1 e2 e3
    have hlt := (Array.getElem?_eq_some_iff.1 h3).1
    have key : ∀ k, k < 2 → w.cell? ⟨g, i * 2 + k, none⟩ = (encV P)[i * 2 + k]? := fun k hk => by
      rw [cell_of_block h3, ← h7, List.getElem?_take_of_lt (by omega), Array.getElem?_toList]
    obtain ⟨k0, k1⟩ := encV_get hi
    exact ⟨g, e1, h2, hlt, (key 0 (by omega)).trans k0, (key 1 (by omega)).trans k1⟩

theorem own_kind {w : World} {B e s n b : Nat} {v : Value} {xs : List Value} (h : w.ownsRow B e s v n xs) (hb : v.ownBlock = some b) {cs : Array Value} {t : TypeId} {r : Nat × Nat} (hc : w.heap[b]? = some (.cells cs t r)) : t = e := by
  obtain ⟨_, _, cs', e1⟩ := own_at h hb
  rw [e1] at hc
  injection hc with hc
  injection hc with _ e2 _
  exact e2.symm
theorem Grid.kept {B : Nat} {w w' : World} {g : Nat} {ls : Rws} (h : Grid B w g ls) (k : Keep B w w') (e : w'.heap[g]? = w.heap[g]?) : Grid B w' g ls := by
  obtain ⟨vs, ⟨cs, r1, r2, r3⟩, hv⟩ := h.row
  refine ⟨h.low, vs, ⟨cs, e.trans r1, r2, r3⟩, fun i hi => ?_⟩
  obtain ⟨a, c, e1, e2⟩ := hv i hi
  exact ⟨a, c, e1, e2.keep k⟩
theorem Grid.kind {B : Nat} {w : World} {g : Nat} {ls : Rws} (h : Grid B w g ls) : ∃ cs, w.heap[g]? = some (.cells cs 38 (0, 0)) := by
  obtain ⟨vs, ⟨cs, r1, _, _⟩, _⟩ := h.row
  exact ⟨cs, r1⟩

/-- What lies below B stays; and each block of a kind that T doesn't name. -/
structure Fb (T : TypeId → Bool) (B : Nat) (w w' : World) : Prop where
  low : Below B w w'
  stay : ∀ b, b < w.heap.size → (∀ cs t r, w.heap[b]? = some (.cells cs t r) → T t = false) → w'.heap[b]? = w.heap[b]?
theorem Fb.refl (T : TypeId → Bool) (B : Nat) (w : World) : Fb T B w w := ⟨Below.refl _ _, fun _ _ _ => rfl⟩
theorem Fb.trans {T : TypeId → Bool} {B : Nat} {a b c : World} (h : Fb T B a b) (k : Fb T B b c) : Fb T B a c :=
  ⟨h.low.trans k.low, fun i hi ht => by
    have e := h.stay i hi ht
    rw [k.stay i (Nat.lt_of_lt_of_le hi h.low.size) fun cs t r hc => ht cs t r (e ▸ hc), e]⟩
theorem Fb.of_below {T : TypeId → Bool} {B : Nat} {w w' : World} (hB : B ≤ w.heap.size) (k : Below w.heap.size w w') : Fb T B w w' := ⟨k.mono hB, fun b hb _ => k.block b hb⟩
theorem Fb.later {T : TypeId → Bool} {B : Nat} {a w w' : World} (h : Fb T B a w) (hB : B ≤ w.heap.size) (k : Below w.heap.size w w') : Fb T B a w' := h.trans (Fb.of_below hB k)
theorem Fb.alloc {T : TypeId → Bool} {B : Nat} {a w : World} (h : Fb T B a w) (hB : B ≤ w.heap.size) (o : Obj) : Fb T B a (w.alloc o) := h.later hB ((Below.refl _ _).alloc (Nat.le_refl _) _)
theorem Fb.drew {T : TypeId → Bool} {B : Nat} {a w : World} (h : Fb T B a w) : Fb T B a w.drew := ⟨h.low.drew, h.stay⟩
theorem Fb.mono {T T' : TypeId → Bool} {B : Nat} {w w' : World} (h : Fb T B w w') (k : ∀ t, T t = true → T' t = true) : Fb T' B w w' :=
  ⟨h.low, fun b hb ht => h.stay b hb fun cs t r hc => by
    have := ht cs t r hc
    cases e : T t with
    | false => rfl
    | true => rw [k t e] at this; cases this⟩
theorem Fb.block {T : TypeId → Bool} {B : Nat} {w w' : World} (h : Fb T B w w') {b : Nat} {cs : Array Value} {t : TypeId} {r : Nat × Nat} (hc : w.heap[b]? = some (.cells cs t r)) (ht : T t = false) : w'.heap[b]? = some (.cells cs t r) := by
  rw [h.stay b (Array.getElem?_eq_some_iff.1 hc).1 fun cs' t' r' e => ?_]
  · exact hc
  · rw [hc] at e
    injection e with e
    injection e with _ e _
    rw [← e]; exact ht
theorem Fb.set {T : TypeId → Bool} {B : Nat} {a w : World} (h : Fb T B a w) {b i : Nat} (hB : B ≤ b) {cs : Array Value} {t : TypeId} {r : Nat × Nat} (hc : w.heap[b]? = some (.cells cs t r)) (ht : T t = true) (u : Value) : Fb T B a (w.setCell ⟨b, i, none⟩ u) :=
  h.trans ⟨(Below.refl _ _).setCell (p := ⟨b, i, none⟩) hB _, fun k hk hs => Below.heap_setCell _ _ _ _ fun e => by
    subst e
    have := hs _ _ _ hc
    rw [ht] at this; cases this⟩
theorem Fb.grown {T : TypeId → Bool} {B : Nat} {a w w' : World} (h : Fb T B a w) {row : Option Nat} (k : w.grownBy w' row) (hr : ∀ b, row = some b → B ≤ b ∧ ∃ cs t r, w.heap[b]? = some (.cells cs t r) ∧ T t = true) (hB : B ≤ w.heap.size) : Fb T B a w' :=
  h.trans ⟨⟨k.os, k.tape, k.output, k.size, fun b hb => k.block b (by omega) fun e => by have := (hr b e.symm).1; omega⟩, fun b hb hs => k.block b hb fun e => by
    obtain ⟨_, cs, t, r, hc, ht⟩ := hr b e.symm
    have := hs _ _ _ hc
    rw [ht] at this; cases this⟩
/-- The kinds of blocks that a bench's work on rows writes. -/
def T3 (t : TypeId) : Bool := t == 51 || t == 38 || t == 44
/-- And its work on steps. -/
def T4 (t : TypeId) : Bool := T3 t || t == 68
theorem t34 (t : TypeId) (h : T3 t = true) : T4 t = true := by unfold T4; rw [h]; rfl

/-- A bench: block Bb names the rows, the deeds and the steps; all of it lies from B on. -/
structure BnAt (B : Nat) (w : World) (Bb g : Nat) (p : Pd) (dv : Value) (S : List (Nat × Nat)) (sv : Value) : Prop where
  lo : B ≤ Bb
  ben : w.heap[Bb]? = some (.cells #[.slice (some ⟨g, 0, none⟩) p.1.length p.1.length, dv, sv] 51 (0, 0))
  grid : Grid B w g p.1
  deed : OwnD B w dv p.2
  step : OwnV B w sv S
section
variable {B Bb g : Nat} {w w' : World} {p : Pd} {dv sv : Value} {S : List (Nat × Nat)}
theorem BnAt.lt (h : BnAt B w Bb g p dv S sv) : Bb < w.heap.size := (Array.getElem?_eq_some_iff.1 h.ben).1
theorem BnAt.cells (h : BnAt B w Bb g p dv S sv) : w.cell? ⟨Bb, 0, none⟩ = some (.slice (some ⟨g, 0, none⟩) p.1.length p.1.length) ∧ w.cell? ⟨Bb, 1, none⟩ = some dv ∧ w.cell? ⟨Bb, 2, none⟩ = some sv := by
  refine ⟨?_, ?_, ?_⟩ <;> rw [cell_of_block h.ben] <;> rfl
theorem BnAt.loose (h : BnAt B w Bb g p dv S sv) (i : Nat) : w.frozen? ⟨Bb, i, none⟩ = false := unfrozen_of_block h.ben i
theorem BnAt.gne (h : BnAt B w Bb g p dv S sv) : g ≠ Bb := fun e => by
  obtain ⟨cs, k⟩ := h.grid.kind
  rw [e, h.ben] at k
  injection k with k
  injection k with _ k _
  exact absurd k (by decide)
theorem BnAt.other (h : BnAt B w Bb g p dv S sv) : Other B w Bb := ⟨h.lo, _, _, _, h.ben, by decide⟩
theorem BnAt.dne (h : BnAt B w Bb g p dv S sv) {b : Nat} (hb : dv.ownBlock = some b) : b ≠ Bb ∧ b ≠ g ∧ Other B w b ∧ sv.ownBlock ≠ some b := by
  obtain ⟨cs, k⟩ := h.grid.kind
  obtain ⟨q1, q2, cs', q3⟩ := own_at h.deed hb
  refine ⟨fun e => ?_, fun e => ?_, ⟨q1, cs', _, _, q3, by decide⟩, fun e => ?_⟩
  · subst e; exact absurd (own_kind h.deed hb h.ben) (by decide)
  · subst e; exact absurd (own_kind h.deed hb k) (by decide)
  · exact absurd (own_kind h.step e q3) (by decide)
theorem BnAt.sne (h : BnAt B w Bb g p dv S sv) {b : Nat} (hb : sv.ownBlock = some b) : b ≠ Bb ∧ b ≠ g ∧ Other B w b ∧ dv.ownBlock ≠ some b := by
  obtain ⟨cs, k⟩ := h.grid.kind
  obtain ⟨q1, q2, cs', q3⟩ := own_at h.step hb
  refine ⟨fun e => ?_, fun e => ?_, ⟨q1, cs', _, _, q3, by decide⟩, fun e => ?_⟩
  · subst e; exact absurd (own_kind h.step hb h.ben) (by decide)
  · subst e; exact absurd (own_kind h.step hb k) (by decide)
  · exact absurd (own_kind h.deed e q3) (by decide)
/-- Memory is made. -/
theorem BnAt.below (h : BnAt B w Bb g p dv S sv) (k : Below w.heap.size w w') : BnAt B w' Bb g p dv S sv :=
  ⟨h.lo, (k.block _ h.lt).trans h.ben, h.grid.below k, own_kept h.deed fun b hb => k.block b (own_at h.deed hb).2.1, own_kept h.step fun b hb => k.block b (own_at h.step hb).2.1⟩
theorem BnAt.drew (h : BnAt B w Bb g p dv S sv) : BnAt B w.drew Bb g p dv S sv := h.below (Below.refl _ _).drew
/-- A row is another one. -/
theorem BnAt.row (h : BnAt B w Bb g p dv S sv) {i : Nat} (hi : i < p.1.length) {a : Option Addr} {c : Nat} {x : List Nat} (hx : Rw B w a c x) : BnAt B (w.setCell ⟨g, i, none⟩ (.slice a x.length c)) Bb g (p.1.set i x, p.2) dv S sv := by
  refine ⟨h.lo, ?_, h.grid.set hi hx, own_kept h.deed fun b hb => ?_, own_kept h.step fun b hb => ?_⟩
  · rw [Below.heap_setCell _ _ _ _ (Ne.symm h.gne), List.length_set]; exact h.ben
  · exact Below.heap_setCell _ _ _ _ (h.dne hb).2.1
  · exact Below.heap_setCell _ _ _ _ (h.sne hb).2.1
theorem BnAt.row_below (h : BnAt B w Bb g p dv S sv) (i : Nat) (u : Value) : Fb T3 B w (w.setCell ⟨g, i, none⟩ u) := by
  obtain ⟨cs, k⟩ := h.grid.kind
  exact (Fb.refl _ _ _).set h.grid.low k (by decide) u
theorem BnAt.size (h : BnAt B w Bb g p dv S sv) : B ≤ w.heap.size := by have := h.lo; have := h.lt; omega
/-- The deeds are other ones. -/
theorem BnAt.deeds (h : BnAt B w Bb g p dv S sv) {v' : Value} {D' : Dz} (ho : OwnD B w' v' D') (k : w.grownBy w' dv.ownBlock) : BnAt B (w'.setCell ⟨Bb, 1, none⟩ v') Bb g (p.1, D') v' S sv ∧ Fb T3 B w (w'.setCell ⟨Bb, 1, none⟩ v') := by
  have hb1 : w'.heap[Bb]? = w.heap[Bb]? := k.block _ h.lt fun e => (h.dne e.symm).1 rfl
  have hk : Keep B w w' := (Keep.refl B w).grown k fun b hb => (h.dne hb).2.2.1
  have hb2 : w'.heap[Bb]? = some (.cells #[.slice (some ⟨g, 0, none⟩) p.1.length p.1.length, dv, sv] 51 (0, 0)) := hb1.trans h.ben
  have hot : Other B w' Bb := ⟨h.lo, _, _, _, hb2, by decide⟩
  have hk2 : Keep B w (w'.setCell ⟨Bb, 1, none⟩ v') := hk.set (p := ⟨Bb, 1, none⟩) hot v'
  have hput : ∀ b, b ≠ Bb → (w'.setCell ⟨Bb, 1, none⟩ v').heap[b]? = w'.heap[b]? := fun b hb => Below.heap_setCell _ _ _ _ hb
  refine ⟨⟨h.lo, block_setCell hb2 v', h.grid.kept hk2 ?_, own_kept ho fun b hb => hput b fun e => ?_, own_kept h.step fun b hb => ?_⟩, ((Fb.refl _ _ _).grown k (fun b hb => ⟨(h.dne hb).2.2.1.1, (own_at h.deed hb).2.2.elim fun cs hc => ⟨cs, _, _, hc, by decide⟩⟩) h.size).set h.lo hb2 (by decide) v'⟩
  · rw [hput g h.gne]
    exact k.block _ h.grid.lt fun e => (h.dne e.symm).2.1 rfl
  · subst e; exact absurd (own_kind ho hb hb2) (by decide)
  · rw [hput b (h.sne hb).1]
    exact k.block _ (own_at h.step hb).2.1 fun e => (h.dne e.symm).2.2.2 hb
/-- The steps are other ones. -/
theorem BnAt.steps (h : BnAt B w Bb g p dv S sv) {v' : Value} {S' : List (Nat × Nat)} (ho : OwnV B w' v' S') (k : w.grownBy w' sv.ownBlock) : BnAt B (w'.setCell ⟨Bb, 2, none⟩ v') Bb g p dv S' v' ∧ Fb T4 B w (w'.setCell ⟨Bb, 2, none⟩ v') := by
  have hb1 : w'.heap[Bb]? = w.heap[Bb]? := k.block _ h.lt fun e => (h.sne e.symm).1 rfl
  have hk : Keep B w w' := (Keep.refl B w).grown k fun b hb => (h.sne hb).2.2.1
  have hb2 : w'.heap[Bb]? = some (.cells #[.slice (some ⟨g, 0, none⟩) p.1.length p.1.length, dv, sv] 51 (0, 0)) := hb1.trans h.ben
  have hot : Other B w' Bb := ⟨h.lo, _, _, _, hb2, by decide⟩
  have hk2 : Keep B w (w'.setCell ⟨Bb, 2, none⟩ v') := hk.set (p := ⟨Bb, 2, none⟩) hot v'
  have hput : ∀ b, b ≠ Bb → (w'.setCell ⟨Bb, 2, none⟩ v').heap[b]? = w'.heap[b]? := fun b hb => Below.heap_setCell _ _ _ _ hb
  refine ⟨⟨h.lo, block_setCell hb2 v', h.grid.kept hk2 ?_, own_kept h.deed fun b hb => ?_, own_kept ho fun b hb => hput b fun e => ?_⟩, ((Fb.refl _ _ _).grown k (fun b hb => ⟨(h.sne hb).2.2.1.1, (own_at h.step hb).2.2.elim fun cs hc => ⟨cs, _, _, hc, by decide⟩⟩) h.size).set h.lo hb2 (by decide) v'⟩
  · rw [hput g h.gne]
    exact k.block _ h.grid.lt fun e => (h.sne e.symm).2.1 rfl
  · rw [hput b (h.dne hb).1]
    exact k.block _ (own_at h.deed hb).2.1 fun e => (h.sne e.symm).2.2.2 hb
  · subst e; exact absurd (own_kind ho hb hb2) (by decide)
/-- The last deeds are let go. -/
theorem BnAt.cut {D D' : Dz} {M : Rws} {a : Option Addr} {c : Nat} (h : BnAt B w Bb g (M, D ++ D') (.slice a (D ++ D').length c) S sv) : BnAt B (w.setCell ⟨Bb, 1, none⟩ (.slice a D.length c)) Bb g (M, D) (.slice a D.length c) S sv ∧ Fb T3 B w (w.setCell ⟨Bb, 1, none⟩ (.slice a D.length c)) :=
  h.deeds (OwnD.take h.deed) ⟨rfl, rfl, rfl, Nat.le_refl _, fun _ _ _ => rfl⟩
end
end Go.Proofs.Ytacncbojplmcjaa
end

section
namespace Go.Proofs.Ytacncbojplmcjaa
open Go.ChangeShapes Go.WideShapes Go.ChangeAt Go.RowKit Go.Joins
set_option linter.unusedVariables false

theorem BnAt.ben_d {B Bb g : Nat} {w w' : World} {p : Pd} {dv sv : Value} {S : List (Nat × Nat)} (h : BnAt B w Bb g p dv S sv) (k : w.grownBy w' dv.ownBlock) : w'.cell? ⟨Bb, 1, none⟩ = some dv ∧ w'.frozen? ⟨Bb, 1, none⟩ = false := by
  have hb1 : w'.heap[Bb]? = _ := (k.block _ h.lt fun e => (h.dne e.symm).1 rfl).trans h.ben
  exact ⟨by rw [cell_of_block hb1]; rfl, unfrozen_of_block hb1 1⟩
theorem BnAt.ben_s {B Bb g : Nat} {w w' : World} {p : Pd} {dv sv : Value} {S : List (Nat × Nat)} (h : BnAt B w Bb g p dv S sv) (k : w.grownBy w' sv.ownBlock) : w'.cell? ⟨Bb, 2, none⟩ = some sv ∧ w'.frozen? ⟨Bb, 2, none⟩ = false := by
  have hb1 : w'.heap[Bb]? = _ := (k.block _ h.lt fun e => (h.sne e.symm).1 rfl).trans h.ben
  exact ⟨by rw [cell_of_block hb1]; rfl, unfrozen_of_block hb1 2⟩
/-- What a method of a bench leaves: rows, deeds, the same steps. -/
def BnPost (B : Nat) (w : World) (Bb g : Nat) (p : Pd) (S : List (Nat × Nat)) (sv : Value) (e : Ending) (w' : World) : Prop :=
  e = .returned (.tuple #[]) ∧ ∃ dv', BnAt B w' Bb g p dv' S sv ∧ Fb T3 B w w'

set_option maxRecDepth 1000000 in
set_option maxHeartbeats 8000000 in
theorem badd_any (B m n : Nat) (w : World) (Bb g : Nat) (p : Pd) (dv : Value) (S : List (Nat × Nat)) (sv : Value) (hb : BnAt B w Bb g p dv S sv) (ok : Ok m n p) (hm : m ≤ 1000) (hn : n ≤ 256) (hD : p.2.length ≤ 1000000) (t f c : Nat) (ht : t < m) (hf : f < m) (hc : c < 256) :
    Calls Try.prog 23 #[.pointer (some ⟨Bb, 0, none⟩), .int .i64 (t : Int), .int .i64 (f : Int), .int .u8 (c : Int)] w (BnPost B w Bb g (addP p t f c) S sv) := by
  by_cases h0 : c = 0
  · have HX : Hid (addP p t f c = p) := by show _ = _; unfold addP; rw [if_pos h0]
    have HB := Lib.hid hb
    subst h0
    clear hb ok
    go_enter Try.func23, Try.ntmps23
    go_wp2_with fail
    go_end0
    exact ⟨rfl, dv, by rw [HX.out]; exact HB.out, Fb.refl _ _ _⟩
  · have hcz : ((c : Int) == 0) = false := by simp; omega
    have hM := ok.rect.rows
    have htp : t < p.1.length := by omega
    have hfp : f < p.1.length := by omega
    have hxm : ∀ i (h : i < p.1.length), p.1[i].length = n ∧ IsByte p.1[i] := fun i h => ⟨ok.rect.len _ (List.getElem_mem h), ok.rect.byte _ (List.getElem_mem h)⟩
    have HX : Hid (addP p t f c = (p.1.set t (plusN p.1[t] p.1[f] c), p.2 ++ [(t, f, c)])) := by
      show _ = _
      unfold addP; rw [if_neg h0, getR htp, getR hfp]
    obtain ⟨wd, hwd⟩ : ∃ wd, wd = w.drew := ⟨_, rfl⟩
    have HB : Hid (BnAt B wd Bb g p dv S sv) := by rw [hwd]; exact hb.drew
    have HW : Hid (Fb T3 B w wd) := by rw [hwd]; exact (Fb.refl _ _ _).drew
    obtain ⟨a1, c1, k1, r1⟩ := HB.out.grid.cell htp
    obtain ⟨a2, c2, k2, r2⟩ := HB.out.grid.cell hfp
    have q0 := HB.out.cells.1
    have hlt := HB.out.lt
    have hgl := HB.out.grid.lt
    rw [hM] at q0
    have y1 := hxm t htp
    have y2 := hxm f hfp
    rw [y1.1] at k1
    rw [y2.1] at k2
    have HA := axpy_same a1 a2 c1 c2 p.1[t] p.1[f] c wd (by omega) hc (by omega) r1.sl r2.sl
    rw [y1.1, y2.1] at HA
    have HAX := Lib.hid HA
    have hpl : (plusN p.1[t] p.1[f] c).length = n := by rw [plusN_len _ _ _ (by omega)]; exact y1.1
    have hpb : IsByte (plusN p.1[t] p.1[f] c) := plusN_byte _ _ _ y1.2 y2.2
    have cb : ∀ q : KeepW wd (fun _ => False), q.v.cell? ⟨Bb, 0, none⟩ = some (.slice (some ⟨g, 0, none⟩) m m) := fun q => (q.cell hlt (fun h => h)).trans q0
    have ct : ∀ q : KeepW wd (fun _ => False), q.v.cell? ⟨g, t, none⟩ = some (.slice a1 n c1) := fun q => (q.cell hgl (fun h => h)).trans k1
    have cf : ∀ q : KeepW wd (fun _ => False), q.v.cell? ⟨g, f, none⟩ = some (.slice a2 n c2) := fun q => (q.cell hgl (fun h => h)).trans k2
    have htz : (t : Int) < (m : Int) := by omega
    have hfz : (f : Int) < (m : Int) := by omega
    have HPL := Lib.hid hpl
    have HPB := Lib.hid hpb
    have HT := Lib.hid htp
    have HBYL := Lib.hid hM
    have hsz : B ≤ wd.heap.size := by have := HB.out.lo; omega
    clear hb ok hxm r1 r2 k1 k2 q0 y1 y2 HA hpl hpb h0
    generalize plusN p.1[t] p.1[f] c = X at *
    clear hfp hM htp
    go_enter Try.func23, Try.ntmps23
    go_wp2_with fail
    refine growK_begin 25 (fun w' => ∃ q : KeepW wd (fun _ => False), w' = q.v) (by kernel_rfl) ?_
    rw [← hwd]
    clear hwd
    refine growK_take (by kernel_rfl) [0, 1, 2, 3, 4, 5, 6, 7, 8, 9, 10, 11, 12, 13, 14, 15, 16, 17, 18, 19] 6 _ _ (by kernel_rfl) _ (keep_class (Fr.refl _ _)) ?_
    simp only [opsAt, List.getElem?_toArray, List.getElem?_cons_succ, List.getElem?_cons_zero]
    repeat (first | go_big_quiet_step (fail) | quiet_step (fail))
    refine wpQuiet_nil ?_
    clear cb cf
    refine growK_one 20 (by kernel_rfl) (fun K hK => ?_)
    simp only [stepOf, List.getElem?_toArray, List.getElem?_cons_succ, List.getElem?_cons_zero]
    go_simp
    go_at_call 38
    (with_reducible refine HAX.out.mono ?_)
    rintro e w5 ⟨rfl, hnt⟩
    have HB5 := Lib.hid (HB.out.below hnt.below)
    have hrw : Rw B w5 (some ⟨wd.heap.size, 0, none⟩) n X := by
      have h : NewTo wd w5 X X.length := by rw [HPL.out]; exact hnt
      have h2 := Rw.of_new (B := B) h HPB.out (by have := HPL.out; omega)
      rw [HPL.out] at h2
      exact h2
    have HRW := Lib.hid hrw
    have HW5 := Lib.hid (HW.out.later hsz hnt.below)
    have hsz5 := hnt.below.size
    have ct5 := ct ⟨w5, Fr.of_below hnt.below⟩
    simp only at ct5
    have zt5 := HB5.out.grid.loose t
    refine hK.out _ _ (keep_class (Fr.of_below hnt.below)) ?_
    have hfr : Fr (fun _ => False) wd w5 := Fr.of_below hnt.below
    clear hK K hnt hrw HAX ct
    refine growK_take (by kernel_rfl) [21, 22, 23, 24] 1 _ _ (by kernel_rfl) _ (keep_class hfr) ?_
    simp only [opsAt, List.getElem?_toArray, List.getElem?_cons_succ, List.getElem?_cons_zero]
    repeat (first | go_big_quiet_step (fail) | quiet_step (fail))
    refine wpQuiet_nil ?_
    refine growK_last (by kernel_rfl) (by kernel_rfl) (fun K hK => ?_)
    simp only [stepOf, List.getElem?_toArray, List.getElem?_cons_succ, List.getElem?_cons_zero]
    go_simp
    refine hK.out _ _ ?_
    clear hK K hfr
    have HB6 : Hid (BnAt B (w5.setCell ⟨g, t, none⟩ (.slice (some ⟨wd.heap.size, 0, none⟩) n n)) Bb g (p.1.set t X, p.2) dv S sv) := by
      have h := HB5.out.row HT.out HRW.out
      rw [HPL.out] at h
      exact h
    have HW6 : Hid (Fb T3 B w (w5.setCell ⟨g, t, none⟩ (.slice (some ⟨wd.heap.size, 0, none⟩) n n))) := HW5.out.trans (HB5.out.row_below t _)
    clear HB HB5 HW HW5 HRW HPB ct5 zt5 hlt hgl hsz
    generalize w5.setCell ⟨g, t, none⟩ (.slice (some ⟨wd.heap.size, 0, none⟩) n n) = w6 at *
    have q1 := HB6.out.cells.2.1
    have hlt6 := HB6.out.lt
    have hB6 : B ≤ w6.heap.size := by have := HB6.out.lo; omega
    have HB7 : Hid (BnAt B (w6.alloc (.cells #[.int .i64 (t : Int), .int .i64 (f : Int), .int .u8 (c : Int)] 44)) Bb g (p.1.set t X, p.2) dv S sv) := HB6.out.below ((Below.refl _ _).alloc (Nat.le_refl _) _)
    have HW7 : Hid (Fb T3 B w (w6.alloc (.cells #[.int .i64 (t : Int), .int .i64 (f : Int), .int .u8 (c : Int)] 44))) := HW6.out.alloc hB6 _
    obtain ⟨ad, cd, hdv⟩ := own_slice HB6.out.deed
    subst hdv
    go_wp2_with (at_builtin; refine wpList_push_d _ rfl _ _ rfl B (.slice ad p.2.length cd) p.2 rfl HB7.out.deed w6.heap.size rfl t f c (by simp) (by simp) (by simp) (by simp; omega) hD ?_; intro v' w9 o9 g9 e9; have HN := Lib.hid (HB7.out.deeds o9.out g9.out); obtain ⟨C9, Z9⟩ := HB7.out.ben_d g9.out; obtain ⟨ac, cc, rfl⟩ := own_slice o9.out; clear o9 g9 e9)
    go_end0
    have hN := HN.out
    rw [show (p.2 ++ [(t, f, c)]).length = p.2.length + 1 by simp] at hN
    exact ⟨rfl, _, by rw [HX.out]; exact hN.1, HW7.out.trans hN.2⟩
end Go.Proofs.Ytacncbojplmcjaa
end

section
namespace Go.Proofs.Ytacncbojplmcjaa
open Go.ChangeShapes Go.WideShapes Go.ChangeAt Go.RowKit Go.Joins
set_option linter.unusedVariables false

set_option maxRecDepth 1000000 in
set_option maxHeartbeats 8000000 in
theorem bscl_any (B m n : Nat) (w : World) (Bb g : Nat) (p : Pd) (dv : Value) (S : List (Nat × Nat)) (sv : Value) (hb : BnAt B w Bb g p dv S sv) (ok : Ok m n p) (hm : m ≤ 1000) (hn : n ≤ 256) (hD : p.2.length ≤ 1000000) (t c : Nat) (ht : t < m) (hc : c < 256) :
    Calls Try.prog 45 #[.pointer (some ⟨Bb, 0, none⟩), .int .i64 (t : Int), .int .u8 (c : Int)] w (BnPost B w Bb g (sclP p t c) S sv) := by
  by_cases h0 : c = 1
  · have HX : Hid (sclP p t c = p) := by show _ = _; unfold sclP; rw [if_pos h0]
    have HB := Lib.hid hb
    subst h0
    clear hb ok
    go_enter Try.func45, Try.ntmps45
    go_wp2_with fail
    go_end0
    exact ⟨rfl, dv, by rw [HX.out]; exact HB.out, Fb.refl _ _ _⟩
  · have hcz : ((c : Int) == 1) = false := by simp; omega
    have hM := ok.rect.rows
    have htp : t < p.1.length := by omega
    have y1 : p.1[t].length = n ∧ IsByte p.1[t] := ⟨ok.rect.len _ (List.getElem_mem htp), ok.rect.byte _ (List.getElem_mem htp)⟩
    have HX : Hid (sclP p t c = (p.1.set t (scaleN p.1[t] c), p.2 ++ [(t, t, c)])) := by
      show _ = _
      unfold sclP; rw [if_neg h0, getR htp]
    obtain ⟨wd, hwd⟩ : ∃ wd, wd = w.drew := ⟨_, rfl⟩
    have HB : Hid (BnAt B wd Bb g p dv S sv) := by rw [hwd]; exact hb.drew
    have HW : Hid (Fb T3 B w wd) := by rw [hwd]; exact (Fb.refl _ _ _).drew
    obtain ⟨a1, c1, k1, r1⟩ := HB.out.grid.cell htp
    have q0 := HB.out.cells.1
    have hlt := HB.out.lt
    have hgl := HB.out.grid.lt
    rw [hM] at q0
    rw [y1.1] at k1
    have HA := scale_any a1 c1 p.1[t] c wd (by omega) hc r1.sl
    rw [y1.1] at HA
    have HAX := Lib.hid HA
    have hpl : (scaleN p.1[t] c).length = n := by rw [scaleN_len]; exact y1.1
    have hpb : IsByte (scaleN p.1[t] c) := scaleN_byte _ _ y1.2
    have cb : ∀ q : KeepW wd (fun _ => False), q.v.cell? ⟨Bb, 0, none⟩ = some (.slice (some ⟨g, 0, none⟩) m m) := fun q => (q.cell hlt (fun h => h)).trans q0
    have ct : ∀ q : KeepW wd (fun _ => False), q.v.cell? ⟨g, t, none⟩ = some (.slice a1 n c1) := fun q => (q.cell hgl (fun h => h)).trans k1
    have htz : (t : Int) < (m : Int) := by omega
    have HPL := Lib.hid hpl
    have HPB := Lib.hid hpb
    have HT := Lib.hid htp
    have hsz : B ≤ wd.heap.size := by have := HB.out.lo; omega
    clear hb ok r1 k1 q0 y1 HA hpl hpb h0
    generalize scaleN p.1[t] c = X at *
    clear hM htp
    go_enter Try.func45, Try.ntmps45
    go_wp2_with fail
    refine growK_begin 15 (fun w' => ∃ q : KeepW wd (fun _ => False), w' = q.v) (by kernel_rfl) ?_
    rw [← hwd]
    clear hwd
    refine growK_take (by kernel_rfl) [0, 1, 2, 3, 4, 5, 6, 7, 8, 9, 10, 11, 12] 3 _ _ (by kernel_rfl) _ (keep_class (Fr.refl _ _)) ?_
    simp only [opsAt, List.getElem?_toArray, List.getElem?_cons_succ, List.getElem?_cons_zero]
    repeat (first | go_big_quiet_step (fail) | quiet_step (fail))
    refine wpQuiet_nil ?_
    clear cb
    refine growK_one 13 (by kernel_rfl) (fun K hK => ?_)
    simp only [stepOf, List.getElem?_toArray, List.getElem?_cons_succ, List.getElem?_cons_zero]
    go_simp
    go_at_call 49
    (with_reducible refine HAX.out.mono ?_)
    rintro e w5 ⟨rfl, hnt⟩
    have HB5 := Lib.hid (HB.out.below hnt.below)
    have hrw : Rw B w5 (some ⟨wd.heap.size, 0, none⟩) n X := by
      have h : NewTo wd w5 X X.length := by rw [HPL.out]; exact hnt
      have h2 := Rw.of_new (B := B) h HPB.out (by have := HPL.out; omega)
      rw [HPL.out] at h2
      exact h2
    have HRW := Lib.hid hrw
    have HW5 := Lib.hid (HW.out.later hsz hnt.below)
    have hsz5 := hnt.below.size
    have ct5 := ct ⟨w5, Fr.of_below hnt.below⟩
    simp only at ct5
    have zt5 := HB5.out.grid.loose t
    refine hK.out _ _ (keep_class (Fr.of_below hnt.below)) ?_
    have hfr : Fr (fun _ => False) wd w5 := Fr.of_below hnt.below
    clear hK K hnt hrw HAX ct
    refine growK_take (by kernel_rfl) [14] 1 _ _ (by kernel_rfl) _ (keep_class hfr) ?_
    simp only [opsAt, List.getElem?_toArray, List.getElem?_cons_succ, List.getElem?_cons_zero]
    repeat (first | go_big_quiet_step (fail) | quiet_step (fail))
    refine wpQuiet_nil ?_
    refine growK_last (by kernel_rfl) (by kernel_rfl) (fun K hK => ?_)
    simp only [stepOf, List.getElem?_toArray, List.getElem?_cons_succ, List.getElem?_cons_zero]
    go_simp
    refine hK.out _ _ ?_
    clear hK K hfr
    have HB6 : Hid (BnAt B (w5.setCell ⟨g, t, none⟩ (.slice (some ⟨wd.heap.size, 0, none⟩) n n)) Bb g (p.1.set t X, p.2) dv S sv) := by
      have h := HB5.out.row HT.out HRW.out
      rw [HPL.out] at h
      exact h
    have HW6 : Hid (Fb T3 B w (w5.setCell ⟨g, t, none⟩ (.slice (some ⟨wd.heap.size, 0, none⟩) n n))) := HW5.out.trans (HB5.out.row_below t _)
    clear HB HB5 HW HW5 HRW HPB ct5 zt5 hlt hgl hsz
    generalize w5.setCell ⟨g, t, none⟩ (.slice (some ⟨wd.heap.size, 0, none⟩) n n) = w6 at *
    have q1 := HB6.out.cells.2.1
    have hlt6 := HB6.out.lt
    have hB6 : B ≤ w6.heap.size := by have := HB6.out.lo; omega
    have HB7 : Hid (BnAt B (w6.alloc (.cells #[.int .i64 (t : Int), .int .i64 (t : Int), .int .u8 (c : Int)] 44)) Bb g (p.1.set t X, p.2) dv S sv) := HB6.out.below ((Below.refl _ _).alloc (Nat.le_refl _) _)
    have HW7 : Hid (Fb T3 B w (w6.alloc (.cells #[.int .i64 (t : Int), .int .i64 (t : Int), .int .u8 (c : Int)] 44))) := HW6.out.alloc hB6 _
    obtain ⟨ad, cd, hdv⟩ := own_slice HB6.out.deed
    subst hdv
    go_wp2_with (at_builtin; refine wpList_push_d _ rfl _ _ rfl B (.slice ad p.2.length cd) p.2 rfl HB7.out.deed w6.heap.size rfl t t c (by simp) (by simp) (by simp) (by simp; omega) hD ?_; intro v' w9 o9 g9 e9; have HN := Lib.hid (HB7.out.deeds o9.out g9.out); obtain ⟨C9, Z9⟩ := HB7.out.ben_d g9.out; obtain ⟨ac, cc, rfl⟩ := own_slice o9.out; clear o9 g9 e9)
    go_end0
    have hN := HN.out
    rw [show (p.2 ++ [(t, t, c)]).length = p.2.length + 1 by simp] at hN
    exact ⟨rfl, _, by rw [HX.out]; exact hN.1, HW7.out.trans hN.2⟩

/-- A number of a row, as it lies in memory. -/
theorem BnAt.num {B : Nat} {w : World} {Bb g : Nat} {p : Pd} {dv sv : Value} {S : List (Nat × Nat)} {m n : Nat} (h : BnAt B w Bb g p dv S sv) (ok : Ok m n p) {i x : Nat} (hi : i < m) (hx : x < n) :
    ∃ rb off c, w.cell? ⟨g, i, none⟩ = some (.slice (some ⟨rb, off, none⟩) n c) ∧ w.cell? ⟨rb, off + x, none⟩ = some (.int .u8 ((at2 p.1 i x : Nat) : Int)) ∧ rb < w.heap.size := by
  have hip : i < p.1.length := by rw [ok.rect.rows]; exact hi
  obtain ⟨a, c, k, r⟩ := h.grid.cell hip
  have hl : p.1[i].length = n := ok.rect.len _ (List.getElem_mem hip)
  obtain ⟨rb, off, e, hb⟩ := r.sl.some (k := x) (by omega)
  have h1 := hb x (by omega)
  rw [hl, e] at k
  have h2 : at2 p.1 i x = p.1[i][x]'(by omega) := by
    unfold at2; rw [getR hip, getD_get (by omega)]
  refine ⟨rb, off, c, k, by rw [h2]; exact h1, World.block_lt_of_cell? w _ h1⟩

set_option maxRecDepth 1000000 in
set_option maxHeartbeats 8000000 in
theorem bcan_any (B m n : Nat) (w : World) (Bb g : Nat) (p : Pd) (dv : Value) (S : List (Nat × Nat)) (sv : Value) (hb : BnAt B w Bb g p dv S sv) (ok : Ok m n p) (hs : Stp m n p.1 S) (hm : m ≤ 1000) (hn : n ≤ 256) (hD : p.2.length ≤ 200000) (eq : Nat) (he : eq < m) (hne : eq ∉ S.map Prod.fst) :
    Calls Try.prog 34 #[.pointer (some ⟨Bb, 0, none⟩), .int .i64 (eq : Int)] w (BnPost B w Bb g (canc S eq S.length p) S sv) := by
  obtain ⟨sa, sc, rfl⟩ := own_slice hb.step
  have HC : Hid (∀ k, k ≤ S.length → CancTo m n S eq k p (canc S eq k p)) := canc_to ok hs he hne
  have HS := Lib.hid hs
  have hSn := hs.few
  have c2 := hb.cells.2.2
  have HB0 : Hid (BnAt B w Bb g (canc S eq 0 p) dv S (.slice sa S.length sc)) := hb
  have HW0 : Hid (Fb T3 B w w) := Fb.refl _ _ _
  clear hb ok hs hne
  go_enter Try.func34, Try.ntmps34
  go_wp2_with fail
  clear c2
  go_loopw [11] (fun i wr => ∃ (k : Nat) (dv : Value), k ≤ S.length ∧ i = .int .i64 k ∧ Hid (BnAt B wr Bb g (canc S eq k p) dv S (.slice sa S.length sc)) ∧ Hid (Fb T3 B w wr)) (fun i _ => S.length - (intOf i).toNat)
  case atStart => exact ⟨0, dv, by omega, rfl, HB0, HW0⟩
  case round =>
    obtain ⟨k, dk, hk, rfl, HB, HW⟩ := hrel
    clear HB0 HW0
    by_cases hlt : k < S.length
    · obtain ⟨sg, rfl, hBs, hsl, s0, s1⟩ := HB.out.step.cells hlt
      have HCK := Lib.hid (HC.out k hk)
      have hlow := HS.out.low _ (List.getElem_mem hlt)
      have hkz : (k : Int) < (S.length : Int) := by omega
      have HX : Hid (canc S eq (k + 1) p = addP (canc S eq k p) eq S[k].1 (at2 (canc S eq k p).1 eq S[k].2)) := by
        show _ = _
        show addP _ _ _ _ = _
        rw [getP hlt]
      have hDk : (canc S eq k p).2.length ≤ 1000000 := by
        obtain ⟨X, e1, e2⟩ := HCK.out.app
        rw [e1, List.length_append]; omega
      have hcl := HCK.out.ok.rect.at2_lt eq S[k].2
      obtain ⟨x, hx⟩ : ∃ x, x = S[k].1 := ⟨_, rfl⟩
      obtain ⟨y, hy⟩ : ∃ y, y = S[k].2 := ⟨_, rfl⟩
      rw [← hx] at s0 hlow HX
      rw [← hy] at s1 hlow HX hcl
      clear hx hy
      have HOK := Lib.hid HCK.out.ok
      clear HCK
      generalize canc S eq k p = q at *
      obtain ⟨W1, rfl⟩ : ∃ z, z = wr := ⟨_, rfl⟩
      have HB1 : Hid (BnAt B (W1.alloc (.cells #[.int .i64 (x : Int), .int .i64 (y : Int)] 68)) Bb g q dk S (.slice (some ⟨sg, 0, none⟩) S.length sc)) := HB.out.below ((Below.refl _ _).alloc (Nat.le_refl _) _)
      have hBsz : B ≤ W1.heap.size := by have := HB.out.lo; have := HB.out.lt; omega
      have HW1 : Hid (Fb T3 B w (W1.alloc (.cells #[.int .i64 (x : Int), .int .i64 (y : Int)] 68))) := HW.out.alloc hBsz _
      obtain ⟨wd, hwd⟩ : ∃ wd, wd = (W1.alloc (.cells #[.int .i64 (x : Int), .int .i64 (y : Int)] 68)).drew := ⟨_, rfl⟩
      have HBd : Hid (BnAt B wd Bb g q dk S (.slice (some ⟨sg, 0, none⟩) S.length sc)) := by rw [hwd]; exact HB1.out.drew
      have HWd : Hid (Fb T3 B w wd) := by rw [hwd]; exact HW1.out.drew
      have e0 : wd.cell? ⟨W1.heap.size, 0, none⟩ = some (.int .i64 (x : Int)) := by rw [hwd]; show (W1.alloc _).cell? _ = _; simp
      have e1 : wd.cell? ⟨W1.heap.size, 1, none⟩ = some (.int .i64 (y : Int)) := by rw [hwd]; show (W1.alloc _).cell? _ = _; simp
      have e2 : W1.heap.size < wd.heap.size := by rw [hwd]; show _ < (W1.alloc _).heap.size; simp
      obtain ⟨rb, ro, rc, k1, k2, k3⟩ := HBd.out.num HOK.out he hlow.2
      have q0 := HBd.out.cells.1
      rw [HOK.out.rect.rows] at q0
      have hblt := HBd.out.lt
      have hglt := HBd.out.grid.lt
      have HAD := Lib.hid (badd_any B m n wd Bb g q dk S _ HBd.out HOK.out hm hn hDk eq x (at2 q.1 eq y) he hlow.1 hcl)
      have d0 : ∀ u : KeepW wd (fun _ => False), u.v.cell? ⟨W1.heap.size, 0, none⟩ = some (.int .i64 (x : Int)) := fun u => (u.cell e2 (fun h => h)).trans e0
      have d1 : ∀ u : KeepW wd (fun _ => False), u.v.cell? ⟨W1.heap.size, 1, none⟩ = some (.int .i64 (y : Int)) := fun u => (u.cell e2 (fun h => h)).trans e1
      have cb : ∀ u : KeepW wd (fun _ => False), u.v.cell? ⟨Bb, 0, none⟩ = some (.slice (some ⟨g, 0, none⟩) m m) := fun u => (u.cell hblt (fun h => h)).trans q0
      have ce : ∀ u : KeepW wd (fun _ => False), u.v.cell? ⟨g, eq, none⟩ = some (.slice (some ⟨rb, ro, none⟩) n rc) := fun u => (u.cell hglt (fun h => h)).trans k1
      have cn : ∀ u : KeepW wd (fun _ => False), u.v.cell? ⟨rb, ro + y, none⟩ = some (.int .u8 ((at2 q.1 eq y : Nat) : Int)) := fun u => (u.cell k3 (fun h => h)).trans k2
      have hez : (eq : Int) < (m : Int) := by omega
      have hyz : (y : Int) < (n : Int) := by omega
      have HS0 := Lib.hid s0
      clear HBd HB1 HW1 HB hlow e0 e1 e2 k1 k2 k3 q0 HOK hBs hDk hcl
      generalize at2 q.1 eq y = c at *
      go_wp2_with fail
      refine growK_begin 15 (fun w' => ∃ u : KeepW wd (fun _ => False), w' = u.v) (by kernel_rfl) ?_
      rw [← hwd]
      clear hwd
      refine growK_take (by kernel_rfl) [0, 1, 2, 3, 4, 5, 6, 7, 8, 9, 10, 11, 12, 13, 14] 1 _ _ (by kernel_rfl) _ (keep_class (Fr.refl _ _)) ?_
      simp only [opsAt, List.getElem?_toArray, List.getElem?_cons_succ, List.getElem?_cons_zero]
      repeat (first | go_big_quiet_step (fail) | quiet_step (fail))
      refine wpQuiet_nil ?_
      clear cb ce cn d0 d1
      refine growK_last (by kernel_rfl) (by kernel_rfl) (fun K hK => ?_)
      simp only [stepOf, List.getElem?_toArray, List.getElem?_cons_succ, List.getElem?_cons_zero]
      go_simp
      go_at_call 23
      (with_reducible refine HAD.out.mono ?_)
      rintro e w5 ⟨rfl, dv5, hb5, hw5⟩
      refine hK.out _ _ ?_
      have HB5 : Hid (BnAt B w5 Bb g (canc S eq (k + 1) p) dv5 S (.slice (some ⟨sg, 0, none⟩) S.length sc)) := by rw [HX.out]; exact hb5
      have HW5 := Lib.hid (HWd.out.trans hw5)
      clear hK K hb5 hw5 HAD HX HWd HW
      go_wp2_with fail
      go_roundw
      case rel => exact ⟨k + 1, dv5, by omega, by go_num, HB5, HW5⟩
      case measure => simp [intOf]; omega
    · obtain rfl : k = S.length := by omega
      go_wp2_with fail
      go_end0
      exact ⟨rfl, dk, HB.out, HW.out⟩
end Go.Proofs.Ytacncbojplmcjaa
end
