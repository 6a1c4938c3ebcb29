/-
  The program's elimination on lists of bytes: what its steps keep, and that what comes out is what the document asks. Plain mathematics.
-/
import Derived.Test.YtiglmoggpjgmbaaEchRef
namespace Go.Proofs.Ytiglmoggpjgmbaa
set_option linter.unusedVariables false

/-- Each, and c times another that isn't longer. -/
def addW (l m : List Nat) (c : Nat) : List Nat := (List.range l.length).map fun j => l.getD j 0 ^^^ mulN (m.getD j 0) c
theorem addW_len (l m : List Nat) (c : Nat) : (addW l m c).length = l.length := by simp [addW]
theorem addW_get (l m : List Nat) (c j : Nat) (h : j < l.length) : (addW l m c).getD j 0 = l.getD j 0 ^^^ mulN (m.getD j 0) c := by
  rw [getD_get (by rw [addW_len]; exact h)]; simp [addW]
theorem addW_byte {l m : List Nat} {c : Nat} (h1 : IsByte l) (h2 : IsByte m) : IsByte (addW l m c) := fun n hn => by
  obtain ⟨j, hj, rfl⟩ := List.mem_map.1 hn
  exact xor_lt (getD_lt h1 j) (mulN_lt _ (getD_lt h2 j))
theorem toV_addW {l m : List Nat} (h1 : IsByte l) (h2 : IsByte m) (hn : m.length ≤ l.length) {c : Nat} (hc : c < 256) : toV (addW l m c) = V.add (toV l) (V.smul (gf c hc) (toV m)) := funext fun j => GF.ext (by
  rw [toV_val (addW_byte h1 h2)]
  show _ = (toV l j).1 ^^^ mulN c (toV m j).1
  rw [toV_val h1, toV_val h2, mul_comm hc (getD_lt h2 j)]
  by_cases hj : j < l.length
  · exact addW_get l m c j hj
  · rw [getD_high (show (addW l m c).length ≤ j by rw [addW_len]; omega), getD_high (show l.length ≤ j by omega), getD_high (show m.length ≤ j by omega), zero_mul, Nat.xor_zero])
theorem addW_zero {l m : List Nat} : addW l m 0 = l := by
  apply List.ext_getElem (addW_len l m 0)
  intro i h1 h2
  have := addW_get l m 0 i h2
  rw [getD_get h1, getD_get h2, mul_zero, Nat.xor_zero] at this
  exact this

/-- A row, with what stands at its right. -/
structure Ln where
  row : List Nat
  right : List Nat
def axL (l s : Ln) (c : Nat) : Ln := ⟨addW l.row s.row c, addW l.right s.right c⟩
def sclL (l : Ln) (c : Nat) : Ln := ⟨scaleN l.row c, scaleN l.right c⟩
abbrev St := Ln × Nat
def cancelN (l : Ln) (s : St) : Ln := axL l s.1 (l.row.getD s.2 0)
def runAll (l : Ln) : List St → Ln
  | [] => l
  | s :: t => runAll (cancelN l s) t
def rvec (l : Ln) : V := toV l.row
def vecL (n : Nat) (l : Ln) : V := fun j => if j < n then toV l.row j else toV l.right (j - n)
/-- A line of bytes, M of them at its right. -/
structure OkL (M : Nat) (l : Ln) : Prop where
  row : IsByte l.row
  right : IsByte l.right
  len : l.right.length = M
/-- What goes with sums and multiples of lines whose rows have n numbers at most. -/
structure LinF (M n : Nat) (φ : Ln → V) : Prop where
  ax : ∀ l s c (hc : c < 256), OkL M l → OkL M s → s.row.length ≤ l.row.length → l.row.length ≤ n → φ (axL l s c) = V.add (φ l) (V.smul (gf c hc) (φ s))
  scl : ∀ l c (hc : c < 256), OkL M l → φ (sclL l c) = V.smul (gf c hc) (φ l)
  fill : ∀ l l', l.right = l'.right → toV l.row = toV l'.row → φ l = φ l'
theorem rvec_lin (M n : Nat) : LinF M n rvec :=
  ⟨fun l s c hc h1 h2 h3 _ => toV_addW h1.row h2.row h3 hc, fun l c hc h => toV_scale h.row hc, fun l l' _ h => h⟩
theorem vecL_lin (M n : Nat) : LinF M n (vecL n) :=
  ⟨fun l s c hc h1 h2 h3 _ => funext fun j => by
    simp only [vecL, V.add, V.smul]
    split
    · exact congrFun (toV_addW h1.row h2.row h3 hc) j
    · exact congrFun (toV_addW h1.right h2.right (by rw [h1.len, h2.len]; exact Nat.le_refl _) hc) (j - n),
   fun l c hc h => funext fun j => by
    simp only [vecL, V.smul]
    split
    · exact congrFun (toV_scale h.row hc) j
    · exact congrFun (toV_scale h.right hc) (j - n),
   fun l l' h1 h2 => funext fun j => by simp only [vecL, h1, h2]⟩

theorem OkL.ax {M : Nat} {l s : Ln} {c : Nat} (h1 : OkL M l) (h2 : OkL M s) : OkL M (axL l s c) :=
  ⟨addW_byte h1.row h2.row, addW_byte h1.right h2.right, by show (addW _ _ _).length = M; rw [addW_len]; exact h1.len⟩
theorem OkL.scl {M : Nat} {l : Ln} {c : Nat} (h1 : OkL M l) : OkL M (sclL l c) :=
  ⟨scaleN_byte _ _ h1.row, scaleN_byte _ _ h1.right, by show (scaleN _ _).length = M; rw [scaleN_len]; exact h1.len⟩

/-- Steps of an echelon form: each has 1 at its lead, and nothing ahead of it. -/
structure OkS (M n : Nat) (s : St) : Prop where
  ok : OkL M s.1
  lead : Lead (rvec s.1) s.2
  one : s.1.row.getD s.2 0 = 1
  lt : s.2 < s.1.row.length
  len : s.1.row.length ≤ n
theorem runAll_len {M n : Nat} : ∀ {t : List St} {l : Ln}, OkL M l → (∀ s ∈ t, OkS M n s) → (runAll l t).row.length = l.row.length ∧ OkL M (runAll l t)
  | [], l, h, _ => ⟨rfl, h⟩
  | s :: t, l, h, hs => by
    have := runAll_len (t := t) (l := cancelN l s) (h.ax (hs s (List.mem_cons_self)).ok) (fun x hx => hs x (List.mem_cons_of_mem _ hx))
    exact ⟨this.1.trans (addW_len _ _ _), this.2⟩
/-- What stands where all steps have 0 stays. -/
theorem runAll_stay {M n : Nat} {j : Nat} : ∀ {t : List St} {l : Ln}, OkL M l → (∀ s ∈ t, OkS M n s) → (∀ s ∈ t, s.1.row.getD j 0 = 0) → (runAll l t).row.getD j 0 = l.row.getD j 0
  | [], l, h, _, _ => rfl
  | s :: t, l, h, hs, hz => by
    have := runAll_stay (t := t) (l := cancelN l s) (h.ax (hs s (List.mem_cons_self)).ok) (fun x hx => hs x (List.mem_cons_of_mem _ hx)) (fun x hx => hz x (List.mem_cons_of_mem _ hx))
    rw [show runAll l (s :: t) = runAll (cancelN l s) t from rfl, this]
    show (addW _ _ _).getD j 0 = _
    by_cases hj : j < l.row.length
    · rw [addW_get _ _ _ _ hj, hz s (List.mem_cons_self), zero_mul, Nat.xor_zero]
    · rw [getD_high (by rw [addW_len]; omega), getD_high (by omega)]
theorem ahead {M n : Nat} {s : St} (h : OkS M n s) {j : Nat} (hj : j < s.2) : s.1.row.getD j 0 = 0 := (toV_zero h.ok.row).1 (h.lead.2 j hj)
theorem runAll_clear {M n : Nat} : ∀ {t : List St} {l : Ln}, OkL M l → (∀ s ∈ t, OkS M n s) → (t.map (·.2)).Pairwise (· < ·) → (∀ s ∈ t, s.1.row.length ≤ l.row.length) → ∀ s ∈ t, (runAll l t).row.getD s.2 0 = 0
  | s :: t, l, h, hs, hp, hl, x, hx => by
    have h0 := hs s (List.mem_cons_self)
    have hs' : ∀ y ∈ t, OkS M n y := fun y hy => hs y (List.mem_cons_of_mem _ hy)
    rw [List.map_cons, List.pairwise_cons] at hp
    have hc : OkL M (cancelN l s) := h.ax h0.ok
    have hcl : (cancelN l s).row.length = l.row.length := addW_len _ _ _
    rw [show runAll l (s :: t) = runAll (cancelN l s) t from rfl]
    rcases List.mem_cons.1 hx with rfl | hx
    · rw [runAll_stay hc hs' fun y hy => ahead (hs' y hy) (hp.1 y.2 (List.mem_map.2 ⟨y, hy, rfl⟩))]
      show (addW _ _ _).getD x.2 0 = 0
      have hlt : x.2 < l.row.length := Nat.lt_of_lt_of_le h0.lt (hl x (List.mem_cons_self))
      rw [addW_get _ _ _ _ hlt, h0.one, one_mul (getD_lt h.row _), Nat.xor_self]
    · exact runAll_clear hc hs' hp.2 (fun y hy => by rw [hcl]; exact hl y (List.mem_cons_of_mem _ hy)) x hx
theorem runAll_span {M n : Nat} {φ : Ln → V} (hφ : LinF M n φ) {A : List V} : ∀ {t : List St} {l : Ln}, OkL M l → l.row.length ≤ n → (∀ s ∈ t, OkS M n s) → (∀ s ∈ t, s.1.row.length ≤ l.row.length) → (∀ s ∈ t, Span A (φ s.1)) →
    (Span A (φ l) ↔ Span A (φ (runAll l t)))
  | [], l, h, _, _, _, _ => Iff.rfl
  | s :: t, l, h, hn, hs, hl, hA => by
    have h0 := hs s (List.mem_cons_self)
    have hc : OkL M (cancelN l s) := h.ax h0.ok
    have hcl : (cancelN l s).row.length = l.row.length := addW_len _ _ _
    have e := hφ.ax l s.1 (l.row.getD s.2 0) (getD_lt h.row _) h h0.ok (hl s (List.mem_cons_self)) hn
    have hA0 := hA s (List.mem_cons_self)
    rw [show runAll l (s :: t) = runAll (cancelN l s) t from rfl, ← runAll_span hφ hc (by rw [hcl]; exact hn) (fun y hy => hs y (List.mem_cons_of_mem _ hy)) (fun y hy => by rw [hcl]; exact hl y (List.mem_cons_of_mem _ hy)) (fun y hy => hA y (List.mem_cons_of_mem _ hy))]
    show _ ↔ Span A (φ (axL l s.1 _))
    rw [e]
    refine ⟨fun h1 => h1.axpy _ hA0, fun h1 => ?_⟩
    have := h1.axpy (gf (l.row.getD s.2 0) (getD_lt h.row _)) hA0
    rw [V.add_assoc, V.add_self, V.add_zero] at this
    exact this

/-- A place for x in steps: those ahead have a smaller lead, those from there on a greater one. -/
def insAt {α : Type} (l : List α) (i : Nat) (x : α) : List α := l.take i ++ x :: l.drop i
theorem mem_insAt {α : Type} {l : List α} {i : Nat} {x y : α} : y ∈ insAt l i x ↔ y = x ∨ y ∈ l := by
  unfold insAt
  rw [List.mem_append, List.mem_cons]
  constructor
  · rintro (h | h | h)
    · exact .inr (List.mem_of_mem_take h)
    · exact .inl h
    · exact .inr (List.mem_of_mem_drop h)
  · rintro (h | h)
    · exact .inr (.inl h)
    · rw [← List.take_append_drop i l, List.mem_append] at h
      rcases h with h | h
      · exact .inl h
      · exact .inr (.inr h)
theorem insAt_length {α : Type} (l : List α) (i : Nat) (x : α) (h : i ≤ l.length) : (insAt l i x).length = l.length + 1 := by simp [insAt]; omega

/-- What the program has when some lines are done: steps, and lines of whose rows nothing is left. -/
structure Inv (M n : Nat) (done : List Ln) (steps : List St) (zs : List Ln) : Prop where
  okD : ∀ l ∈ done, OkL M l ∧ l.row.length ≤ n
  okS : ∀ s ∈ steps, OkS M n s
  up : (steps.map (·.2)).Pairwise (· < ·)
  long : ∀ s ∈ steps, ∃ l ∈ done, s.1.row.length = l.row.length
  okZ : ∀ z ∈ zs, OkL M z ∧ rvec z = V.zero
  inn : ∀ φ, LinF M n φ → ∀ s ∈ steps, Span (done.map φ) (φ s.1)
  zin : ∀ φ, LinF M n φ → ∀ z ∈ zs, Span (done.map φ) (φ z)
  out : ∀ φ, LinF M n φ → ∀ l ∈ done, Span (steps.map (fun s => φ s.1) ++ zs.map φ) (φ l)

theorem Inv.start (M n : Nat) : Inv M n [] [] [] :=
  ⟨by simp, by simp, by simp, by simp, by simp, by simp, by simp, by simp⟩

theorem span_app_left {A B : List V} {v : V} (h : Span A v) : Span (A ++ B) v := Span.le (fun s hs => Span.mem (List.mem_append_left _ hs)) h
theorem span_sub {A B : List V} {v : V} (h : ∀ x ∈ A, x ∈ B) (hv : Span A v) : Span B v := Span.le (fun s hs => Span.mem (h s hs)) hv

/-- A line of which nothing is left. -/
theorem Inv.none {M n : Nat} {done : List Ln} {steps : List St} {zs : List Ln} (h : Inv M n done steps zs) {l : Ln} (hl : OkL M l) (hn : l.row.length ≤ n) (hlong : ∀ d ∈ done, d.row.length ≤ l.row.length)
    (hz : rvec (runAll l steps) = V.zero) : Inv M n (done ++ [l]) steps (zs ++ [runAll l steps]) := by
  have hle : ∀ s ∈ steps, s.1.row.length ≤ l.row.length := fun s hs => by obtain ⟨d, hd, e⟩ := h.long s hs; rw [e]; exact hlong d hd
  have mono : ∀ φ, ∀ v, Span (done.map φ) v → Span ((done ++ [l]).map φ) v := fun φ v hv => span_sub (fun x hx => by rw [List.map_append]; exact List.mem_append_left _ hx) hv
  refine ⟨fun d hd => ?_, h.okS, h.up, fun s hs => ?_, fun z hz' => ?_, fun φ hφ s hs => mono φ _ (h.inn φ hφ s hs), fun φ hφ z hz' => ?_, fun φ hφ d hd => ?_⟩
  · rcases List.mem_append.1 hd with hd | hd
    · exact h.okD d hd
    · rw [List.mem_singleton.1 hd]; exact ⟨hl, hn⟩
  · obtain ⟨d, hd, e⟩ := h.long s hs
    exact ⟨d, List.mem_append_left _ hd, e⟩
  · rcases List.mem_append.1 hz' with hz' | hz'
    · exact h.okZ z hz'
    · rw [List.mem_singleton.1 hz']; exact ⟨(runAll_len hl h.okS).2, hz⟩
  · rcases List.mem_append.1 hz' with hz' | hz'
    · exact mono φ _ (h.zin φ hφ z hz')
    · rw [List.mem_singleton.1 hz']
      exact (runAll_span hφ hl hn h.okS hle (fun s hs => mono φ _ (h.inn φ hφ s hs))).1 (Span.mem (by simp))
  · rw [List.map_append, ← List.append_assoc]
    rcases List.mem_append.1 hd with hd | hd
    · exact span_app_left (h.out φ hφ d hd)
    · rw [List.mem_singleton.1 hd]
      refine (runAll_span hφ hl hn h.okS hle (fun s hs => Span.mem ?_)).2 (Span.mem (by simp))
      exact List.mem_append_left _ (List.mem_append_left _ (List.mem_map.2 ⟨s, hs, rfl⟩))

/-- A line that becomes a step. -/
theorem Inv.some {M n : Nat} {done : List Ln} {steps : List St} {zs : List Ln} (h : Inv M n done steps zs) {l : Ln} (hl : OkL M l) (hn : l.row.length ≤ n) (hlong : ∀ d ∈ done, d.row.length ≤ l.row.length)
    {p i : Nat} (hp : p < (runAll l steps).row.length) (hnz : (runAll l steps).row.getD p 0 ≠ 0) (hfz : ∀ j, j < p → (runAll l steps).row.getD j 0 = 0)
    (hi1 : ∀ j (hj : j < steps.length), j < i → steps[j].2 < p) (hi2 : ∀ j (hj : j < steps.length), i ≤ j → p ≤ steps[j].2) :
    Inv M n (done ++ [l]) (insAt steps i (sclL (runAll l steps) (invN ((runAll l steps).row.getD p 0)), p)) zs := by
  have hle : ∀ s ∈ steps, s.1.row.length ≤ l.row.length := fun s hs => by obtain ⟨d, hd, e⟩ := h.long s hs; rw [e]; exact hlong d hd
  have mono : ∀ φ, ∀ v, Span (done.map φ) v → Span ((done ++ [l]).map φ) v := fun φ v hv => span_sub (fun x hx => by rw [List.map_append]; exact List.mem_append_left _ hx) hv
  obtain ⟨hrl, hro⟩ := runAll_len hl h.okS
  have hclr := runAll_clear hl h.okS h.up hle
  generalize hr : runAll l steps = r at *
  generalize hc : r.row.getD p 0 = c at *
  have hc256 : c < 256 := by rw [← hc]; exact getD_lt hro.row p
  have hne : ∀ s ∈ steps, s.2 ≠ p := fun s hs e => hnz (by rw [← hc, ← e]; exact hclr s hs)
  have hcz : gf c hc256 ≠ GF.zero := fun e => hnz (congrArg Subtype.val e)
  have hx : OkS M n (sclL r (invN c), p) := by
    refine ⟨hro.scl, ⟨?_, fun j hj => ?_⟩, ?_, ?_, ?_⟩
    · show toV (scaleN r.row (invN c)) p ≠ GF.zero
      rw [toV_scale hro.row (invN_lt hc256)]
      show GF.mul _ (toV r.row p) ≠ GF.zero
      have e1 : toV r.row p = gf c hc256 := GF.ext (by rw [toV_val hro.row, hc]; rfl)
      rw [e1, show gf (invN c) (invN_lt hc256) = GF.inv (gf c hc256) from rfl, GF.inv_mul _ hcz]
      exact GF.one_ne
    · show toV (scaleN r.row (invN c)) j = GF.zero
      rw [toV_scale hro.row (invN_lt hc256)]
      show GF.mul _ (toV r.row j) = GF.zero
      rw [(toV_zero hro.row).2 (hfz j hj), GF.mul_zero]
    · show (scaleN r.row (invN c)).getD p 0 = 1
      rw [getD_get (by rw [scaleN_len]; exact hp), scaleN_get _ _ _ _ hp, ← getD_get hp, hc, invN_mul hc256 hnz]
    · show p < (scaleN r.row (invN c)).length
      rw [scaleN_len]; exact hp
    · show (scaleN r.row (invN c)).length ≤ n
      rw [scaleN_len, hrl]; exact hn
  have hxlen : (sclL r (invN c)).row.length = l.row.length := by show (scaleN _ _).length = _; rw [scaleN_len, hrl]
  refine ⟨fun d hd => ?_, fun s hs => ?_, ?_, fun s hs => ?_, h.okZ, fun φ hφ s hs => ?_, fun φ hφ z hz => mono φ _ (h.zin φ hφ z hz), fun φ hφ d hd => ?_⟩
  · rcases List.mem_append.1 hd with hd | hd
    · exact h.okD d hd
    · rw [List.mem_singleton.1 hd]; exact ⟨hl, hn⟩
  · rcases mem_insAt.1 hs with rfl | hs
    · exact hx
    · exact h.okS s hs
  · have hup := h.up
    rw [List.pairwise_map] at hup ⊢
    unfold insAt
    rw [List.pairwise_append, List.pairwise_cons]
    have hup2 := hup
    rw [← List.take_append_drop i steps, List.pairwise_append] at hup2
    have ht : ∀ s ∈ steps.take i, s.2 < p := fun s hs => by
      obtain ⟨j, hj, rfl⟩ := List.getElem_of_mem hs
      rw [List.getElem_take]
      rw [List.length_take] at hj
      exact hi1 j (by omega) (by omega)
    have hd : ∀ s ∈ steps.drop i, p < s.2 := fun s hs => by
      obtain ⟨j, hj, rfl⟩ := List.getElem_of_mem hs
      rw [List.getElem_drop]
      rw [List.length_drop] at hj
      have h1 := hi2 (i + j) (by omega) (by omega)
      have h2 := hne _ (List.getElem_mem (show i + j < steps.length by omega))
      omega
    exact ⟨hup2.1, ⟨hd, hup2.2.1⟩, fun a ha b hb => by
      rcases List.mem_cons.1 hb with rfl | hb
      · exact ht a ha
      · exact Nat.lt_trans (ht a ha) (hd b hb)⟩
  · rcases mem_insAt.1 hs with rfl | hs
    · exact ⟨l, by simp, hxlen⟩
    · obtain ⟨d, hd, e⟩ := h.long s hs
      exact ⟨d, List.mem_append_left _ hd, e⟩
  · rcases mem_insAt.1 hs with rfl | hs
    · show Span _ (φ (sclL r (invN c)))
      rw [hφ.scl r (invN c) (invN_lt hc256) hro]
      refine Span.smul _ ?_
      rw [← hr]
      exact (runAll_span hφ hl hn h.okS hle (fun s hs => mono φ _ (h.inn φ hφ s hs))).1 (Span.mem (by simp))
    · exact mono φ _ (h.inn φ hφ s hs)
  · have sub : ∀ x ∈ steps.map (fun s => φ s.1) ++ zs.map φ, x ∈ (insAt steps i (sclL r (invN c), p)).map (fun s => φ s.1) ++ zs.map φ := fun x hx => by
      rcases List.mem_append.1 hx with hx | hx
      · obtain ⟨s, hs, rfl⟩ := List.mem_map.1 hx
        exact List.mem_append_left _ (List.mem_map.2 ⟨s, mem_insAt.2 (.inr hs), rfl⟩)
      · exact List.mem_append_right _ hx
    rcases List.mem_append.1 hd with hd | hd
    · exact span_sub sub (h.out φ hφ d hd)
    · rw [List.mem_singleton.1 hd]
      refine (runAll_span hφ hl hn h.okS hle (fun s hs => Span.mem (sub _ (List.mem_append_left _ (List.mem_map.2 ⟨s, hs, rfl⟩))))).2 ?_
      have e : φ r = V.smul (gf c hc256) (φ (sclL r (invN c))) := by
        rw [hφ.scl r (invN c) (invN_lt hc256) hro, V.smul_smul, show gf (invN c) (invN_lt hc256) = GF.inv (gf c hc256) from rfl, GF.mul_inv _ hcz, V.one_smul]
      rw [hr, e]
      exact (Span.mem (List.mem_append_left _ (List.mem_map.2 ⟨_, mem_insAt.2 (.inl rfl), rfl⟩))).smul _

/-! Reduced. -/

/-- So many bytes, with noughts behind. -/
def fillN (l : List Nat) (n : Nat) : List Nat := (List.range n).map fun j => l.getD j 0
theorem fillN_len (l : List Nat) (n : Nat) : (fillN l n).length = n := by simp [fillN]
theorem fillN_get (l : List Nat) (n j : Nat) (h : j < n) : (fillN l n).getD j 0 = l.getD j 0 := by
  rw [getD_get (by rw [fillN_len]; exact h)]; simp [fillN]
theorem fillN_byte {l : List Nat} (h : IsByte l) (n : Nat) : IsByte (fillN l n) := fun x hx => by
  obtain ⟨j, hj, rfl⟩ := List.mem_map.1 hx
  exact getD_lt h j
theorem toV_fillN {l : List Nat} {n : Nat} (h : IsByte l) (hn : l.length ≤ n) : toV (fillN l n) = toV l := funext fun j => GF.ext (by
  rw [toV_val (fillN_byte h n), toV_val h]
  by_cases hj : j < n
  · exact fillN_get l n j hj
  · rw [getD_high (by rw [fillN_len]; omega), getD_high (by omega)])
theorem fillN_self (l : List Nat) : fillN l l.length = l := by
  apply List.ext_getElem (fillN_len _ _)
  intro i h1 h2
  simp [fillN, h2]

/-- Step i, taken clear of those behind it. -/
def clearL (n : Nat) (steps : List St) (i : Nat) : Ln := match steps[i]? with
  | Option.some s => runAll ⟨fillN s.1.row n, s.1.right⟩ (steps.drop (i + 1))
  | Option.none => ⟨[], []⟩

structure Clr (M n : Nat) (steps : List St) (i : Nat) (r : Ln) : Prop where
  ok : OkL M r
  len : r.row.length = n
  one : ∀ (h : i < steps.length), rvec r steps[i].2 = GF.one
  zero : ∀ j (h : j < steps.length), j ≠ i → rvec r steps[j].2 = GF.zero
  inn : ∀ φ, LinF M n φ → Span (steps.map fun s => φ s.1) (φ r)

theorem clear_any {M n : Nat} {steps : List St} (okS : ∀ s ∈ steps, OkS M n s) (up : (steps.map (·.2)).Pairwise (· < ·)) {i : Nat} (hi : i < steps.length) : Clr M n steps i (clearL n steps i) := by
  have hs := okS _ (List.getElem_mem hi)
  have e : clearL n steps i = runAll ⟨fillN steps[i].1.row n, steps[i].1.right⟩ (steps.drop (i + 1)) := by unfold clearL; rw [List.getElem?_eq_getElem hi]
  rw [e]
  have hf : OkL M ⟨fillN steps[i].1.row n, steps[i].1.right⟩ := ⟨fillN_byte hs.ok.row n, hs.ok.right, hs.ok.len⟩
  have okT : ∀ s ∈ steps.drop (i + 1), OkS M n s := fun s h => okS s (List.mem_of_mem_drop h)
  have lenT : ∀ s ∈ steps.drop (i + 1), s.1.row.length ≤ (Ln.mk (fillN steps[i].1.row n) steps[i].1.right).row.length := fun s h => by
    show _ ≤ (fillN _ _).length
    rw [fillN_len]; exact (okT s h).len
  have upT : ((steps.drop (i + 1)).map (·.2)).Pairwise (· < ·) := by rw [List.map_drop]; exact List.Pairwise.sublist (List.drop_sublist _ _) up
  have ord : ∀ a b (ha : a < steps.length) (hb : b < steps.length), a < b → steps[a].2 < steps[b].2 := fun a b ha hb hab => by
    have := (List.pairwise_iff_getElem.1 up) a b (by simpa using ha) (by simpa using hb) hab
    simpa using this
  obtain ⟨h1, h2⟩ := runAll_len hf okT
  have hclr := runAll_clear hf okT upT lenT
  have stay : ∀ j, j ≤ steps[i].2 → (runAll ⟨fillN steps[i].1.row n, steps[i].1.right⟩ (steps.drop (i + 1))).row.getD j 0 = steps[i].1.row.getD j 0 := fun j hj => by
    rw [runAll_stay hf okT fun s hs' => ?_]
    · exact fillN_get _ _ _ (by have := hs.lt; have := hs.len; omega)
    · obtain ⟨q, hq, rfl⟩ := List.getElem_of_mem hs'
      rw [List.length_drop] at hq
      refine ahead (okT _ hs') ?_
      rw [List.getElem_drop]
      have := ord i (i + 1 + q) hi (by omega) (by omega)
      omega
  refine ⟨h2, ?_, fun _ => ?_, fun j hj hji => ?_, fun φ hφ => ?_⟩
  · rw [h1]; exact fillN_len _ _
  · exact GF.ext (by
      show (toV _ _).1 = 1
      rw [toV_val h2.row, stay _ (Nat.le_refl _)]; exact hs.one)
  · refine (toV_zero h2.row).2 ?_
    rcases Nat.lt_or_ge j i with h | h
    · have := ord j i hj hi h
      rw [stay _ (by omega)]; exact ahead hs this
    · refine hclr steps[j] ?_
      rw [List.mem_iff_getElem]
      exact ⟨j - (i + 1), by rw [List.length_drop]; omega, by rw [List.getElem_drop]; simp only [show i + 1 + (j - (i + 1)) = j by omega]⟩
  · have memS : ∀ s ∈ steps, Span (steps.map fun s => φ s.1) (φ s.1) := fun s hs' => Span.mem (List.mem_map.2 ⟨s, hs', rfl⟩)
    refine (runAll_span hφ hf (by show (fillN _ _).length ≤ n; rw [fillN_len]; exact Nat.le_refl _) okT lenT fun s hs' => memS s (List.mem_of_mem_drop hs')).1 ?_
    rw [hφ.fill ⟨fillN steps[i].1.row n, steps[i].1.right⟩ steps[i].1 rfl (toV_fillN hs.ok.row hs.len)]
    exact memS _ (List.getElem_mem hi)
end Go.Proofs.Ytiglmoggpjgmbaa
