/-
  What the program's elimination answers is what the document's does: ranks, reduced forms, solutions. Plain mathematics.
-/
import Derived.Test.YtiglmoggpjgmbaaEchProg
namespace Go.Proofs.Ytiglmoggpjgmbaa
set_option linter.unusedVariables false

theorem span_all {A B : List V} (h : ∀ s ∈ A, Span B s) {v : V} (hv : Span A v) : Span B v := Span.le h hv

/-- The program's lines are the rows, in some order. -/
structure Same (D : List Ln) (rows : Rws) : Prop where
  there : ∀ r ∈ rows, ∃ l ∈ D, l.row = r
  back : ∀ l ∈ D, l.row ∈ rows
def pads (rows : Rws) (N : Nat) : Rws := rows.map fun r => fillN r N
theorem pads_rect {rows : Rws} {N : Nat} (h : ∀ r ∈ rows, IsByte r) : Rect (pads rows N) rows.length N :=
  ⟨by simp [pads], fun x hx => by obtain ⟨r, _, rfl⟩ := List.mem_map.1 hx; exact fillN_len _ _, fun x hx => by obtain ⟨r, hr, rfl⟩ := List.mem_map.1 hx; exact fillN_byte (h r hr) N⟩

def stepV (φ : Ln → V) (steps : List St) : List (V × Nat) := steps.map fun s => (φ s.1, s.2)
theorem stepV_1 (φ : Ln → V) (steps : List St) : (stepV φ steps).map (·.1) = steps.map fun s => φ s.1 := by simp [stepV]
theorem stepV_2 (φ : Ln → V) (steps : List St) : (stepV φ steps).map (·.2) = steps.map (·.2) := by simp [stepV]
theorem Inv.ech {M n : Nat} {D : List Ln} {steps : List St} {zs : List Ln} (h : Inv M n D steps zs) : Ech (stepV rvec steps) := by
  rw [ech_pairs, stepV_2]
  exact ⟨fun s hs => by obtain ⟨x, hx, rfl⟩ := List.mem_map.1 hs; exact (h.okS x hx).lead, h.up⟩
theorem vecL_low {n : Nat} {l : Ln} {j : Nat} (h : j < n) : vecL n l j = rvec l j := if_pos h
theorem vecL_high {n : Nat} {l : Ln} (t : Nat) : vecL n l (n + t) = toV l.right t := by
  unfold vecL; rw [if_neg (by omega), show n + t - n = t by omega]
theorem Inv.echL {M n : Nat} {D : List Ln} {steps : List St} {zs : List Ln} (h : Inv M n D steps zs) : Ech (stepV (vecL n) steps) := by
  rw [ech_pairs, stepV_2]
  refine ⟨fun s hs => ?_, h.up⟩
  obtain ⟨x, hx, rfl⟩ := List.mem_map.1 hs
  have k := h.okS x hx
  have hlt : x.2 < n := Nat.lt_of_lt_of_le k.lt k.len
  exact ⟨by show vecL n x.1 x.2 ≠ _; rw [vecL_low hlt]; exact k.lead.1, fun j hj => by show vecL n x.1 j = _; rw [vecL_low (Nat.lt_trans hj hlt)]; exact k.lead.2 j hj⟩

/-- Without rights nothing but the steps counts. -/
theorem Inv.rows {M n : Nat} {D : List Ln} {steps : List St} {zs : List Ln} (h : Inv M n D steps zs) {v : V} (hv : Span (D.map rvec) v) : Span (steps.map fun s => rvec s.1) v := by
  refine Span.le (fun s hs => ?_) hv
  obtain ⟨l, hl, rfl⟩ := List.mem_map.1 hs
  refine Span.le (fun x hx => ?_) (h.out rvec (rvec_lin M n) l hl)
  rcases List.mem_append.1 hx with hx | hx
  · exact Span.mem hx
  · obtain ⟨z, hz, rfl⟩ := List.mem_map.1 hx
    rw [(h.okZ z hz).2]; exact Span.zero _
theorem same_span1 {D : List Ln} {rows : Rws} {N : Nat} (hs : Same D rows) (hb : ∀ r ∈ rows, IsByte r) (hN : ∀ r ∈ rows, r.length ≤ N) : ∀ s ∈ D.map rvec, Span (vrows (pads rows N)) s := fun s h => by
  obtain ⟨l, hl, rfl⟩ := List.mem_map.1 h
  have hr := hs.back l hl
  refine Span.mem (List.mem_map.2 ⟨fillN l.row N, List.mem_map.2 ⟨l.row, hr, rfl⟩, toV_fillN (hb _ hr) (hN _ hr)⟩)
theorem same_span2 {D : List Ln} {rows : Rws} {N : Nat} (hs : Same D rows) (hb : ∀ r ∈ rows, IsByte r) (hN : ∀ r ∈ rows, r.length ≤ N) : ∀ s ∈ vrows (pads rows N), Span (D.map rvec) s := fun s h => by
  obtain ⟨x, hx, rfl⟩ := List.mem_map.1 h
  obtain ⟨r, hr, rfl⟩ := List.mem_map.1 hx
  obtain ⟨l, hl, rfl⟩ := hs.there r hr
  refine Span.mem (List.mem_map.2 ⟨l, hl, (toV_fillN (hb _ hr) (hN _ hr)).symm⟩)

/-- The leads are the document's places. -/
theorem leads_same {M n N : Nat} {D : List Ln} {steps : List St} {zs : List Ln} {rows : Rws} (h : Inv M n D steps zs) (hs : Same D rows) (hb : ∀ r ∈ rows, IsByte r) (hN : ∀ r ∈ rows, r.length ≤ N) :
    steps.map (·.2) = (echTo (pads rows N) N).2 := by
  have R := red_to (pads_rect (N := N) hb) N
  rw [← stepV_2 rvec, ← heads_map (l := (echTo (pads rows N) N).1) (P := (echTo (pads rows N) N).2)]
  refine ech_same h.ech R.ech (fun s hs' => ?_) (fun s hs' => ?_)
  · obtain ⟨x, hx, rfl⟩ := List.mem_map.1 hs'
    exact R.whole (Span.le (same_span1 hs hb hN) (h.inn rvec (rvec_lin M n) x hx))
  · rw [stepV_1]
    exact h.rows (Span.le (same_span2 hs hb hN) (R.within s hs'))

/-- Row by row the reduced form is the document's. -/
theorem reduced_same {M N : Nat} {D : List Ln} {steps : List St} {zs : List Ln} {rows : Rws} (h : Inv M N D steps zs) (hs : Same D rows) (hb : ∀ r ∈ rows, IsByte r) (hN : ∀ r ∈ rows, r.length ≤ N)
    {i : Nat} (hi : i < steps.length) : (clearL N steps i).row = (echTo (pads rows N) N).1.getD i [] := by
  have R := red_to (pads_rect (N := N) hb) N
  have hl := leads_same h hs hb hN
  have C := clear_any h.okS h.up hi
  generalize (echTo (pads rows N) N).1 = l at *
  generalize hP : (echTo (pads rows N) N).2 = P at *
  have hPl : P.length = steps.length := by rw [← hl]; simp
  have hPg : ∀ j (h1 : j < P.length) (h2 : j < steps.length), P[j] = steps[j].2 := fun j h1 h2 => by simp only [← hl, List.getElem_map]
  have hfew := R.few
  have hi2 : i < rows.length := by omega
  obtain ⟨g1, g2⟩ := R.rect.get hi2
  refine toV_inj C.ok.row g2 (by rw [C.len, g1]) (V.eq_of_add ?_)
  refine ech_zero R.ech (Span.add (R.whole ?_) ?_) fun s hs' => ?_
  · have := C.inn rvec (rvec_lin M N)
    refine Span.le (fun x hx => ?_) this
    obtain ⟨y, hy, rfl⟩ := List.mem_map.1 hx
    exact Span.le (same_span1 hs hb hN) (h.inn rvec (rvec_lin M N) y hy)
  · exact Span.mem (List.mem_map.2 ⟨(vrow l i, P.getD i 0), List.mem_map.2 ⟨i, List.mem_range.2 (by omega), rfl⟩, rfl⟩)
  · obtain ⟨j, hj, rfl⟩ := List.mem_map.1 hs'
    have hj' := List.mem_range.1 hj
    have hj2 : j < steps.length := by omega
    show GF.add (rvec (clearL N steps i) (P.getD j 0)) (vrow l i (P.getD j 0)) = GF.zero
    have e : P.getD j 0 = P[j] := by simp [List.getD, hj']
    rw [e]
    by_cases eq : j = i
    · subst eq
      rw [R.one j hj', hPg j hj' hj2, C.one hj2, GF.add_self]
    · rw [R.zero j hj' i hi2 (Ne.symm eq), hPg j hj' hj2, C.zero j hj2 eq, GF.add_zero]

/-! Full rank. -/

theorem Inv.few {M n : Nat} {D : List Ln} {steps : List St} {zs : List Ln} (h : Inv M n D steps zs) : steps.length ≤ n := by
  have := up_len (n := n) (k := 0) h.up fun x hx => by
    obtain ⟨s, hs, rfl⟩ := List.mem_map.1 hx
    have k := h.okS s hs
    exact ⟨Nat.zero_le _, Nat.lt_of_lt_of_le k.lt k.len⟩
  simpa using this
theorem Inv.full {M n : Nat} {D : List Ln} {steps : List St} {zs : List Ln} (h : Inv M n D steps zs) (hn : n ≤ steps.length) (i : Nat) (hi : i < steps.length) : steps[i].2 = i := by
  have := up_full (n := n) (k := 0) h.up (fun x hx => by
    obtain ⟨s, hs, rfl⟩ := List.mem_map.1 hx
    have k := h.okS s hs
    exact ⟨Nat.zero_le _, Nat.lt_of_lt_of_le k.lt k.len⟩) (by simpa using hn) i (by simpa using hi)
  simpa using this

/-- The sum of the first n. -/
def sumTo (f : Nat → V) : Nat → V
  | 0 => V.zero
  | n + 1 => V.add (sumTo f n) (f n)
theorem sumTo_add (f g : Nat → V) : ∀ n, sumTo (fun i => V.add (f i) (g i)) n = V.add (sumTo f n) (sumTo g n)
  | 0 => (V.add_zero _).symm
  | n + 1 => by simp only [sumTo]; rw [sumTo_add f g n, V.add_swap]
theorem sumTo_smul (c : GF) (f : Nat → V) : ∀ n, sumTo (fun i => V.smul c (f i)) n = V.smul c (sumTo f n)
  | 0 => (V.smul_zero _).symm
  | n + 1 => by simp only [sumTo]; rw [sumTo_smul c f n, V.smul_add]
theorem sumTo_congr {f g : Nat → V} : ∀ {n}, (∀ i, i < n → f i = g i) → sumTo f n = sumTo g n
  | 0, _ => rfl
  | n + 1, h => by simp only [sumTo]; rw [sumTo_congr (n := n) fun i hi => h i (by omega), h n (by omega)]
theorem sumTo_zero {f : Nat → V} : ∀ {n}, (∀ i, i < n → f i = V.zero) → sumTo f n = V.zero
  | 0, _ => rfl
  | n + 1, h => by simp only [sumTo]; rw [sumTo_zero (n := n) fun i hi => h i (by omega), h n (by omega), V.add_zero]
theorem sumTo_one {f : Nat → V} {k : Nat} : ∀ {n}, k < n → (∀ i, i < n → i ≠ k → f i = V.zero) → sumTo f n = f k
  | n + 1, hk, h => by
    simp only [sumTo]
    by_cases e : k = n
    · subst e; rw [sumTo_zero fun i hi => h i (by omega) (by omega), V.zero_add]
    · rw [sumTo_one (n := n) (by omega) fun i hi hne => h i (by omega) hne, h n (by omega) (Ne.symm e), V.add_zero]
theorem sumTo_at {f : Nat → V} {j : Nat} : ∀ {n}, (∀ i, i < n → f i j = GF.zero) → sumTo f n j = GF.zero
  | 0, _ => rfl
  | n + 1, h => by
    show GF.add (sumTo f n j) (f n j) = GF.zero
    rw [sumTo_at (n := n) fun i hi => h i (by omega), h n (by omega), GF.add_zero]
theorem sumTo_at_one {f : Nat → V} {j k : Nat} : ∀ {n}, k < n → (∀ i, i < n → i ≠ k → f i j = GF.zero) → sumTo f n j = f k j
  | n + 1, hk, h => by
    show GF.add (sumTo f n j) (f n j) = _
    by_cases e : k = n
    · subst e; rw [sumTo_at fun i hi => h i (by omega) (by omega), GF.zero_add]
    · rw [sumTo_at_one (n := n) (by omega) fun i hi hne => h i (by omega) hne, h n (by omega) (Ne.symm e), GF.add_zero]
theorem span_sum {A : List V} {f : Nat → V} : ∀ {n}, (∀ i, i < n → Span A (f i)) → Span A (sumTo f n)
  | 0, _ => Span.zero A
  | n + 1, h => (span_sum (n := n) fun i hi => h i (by omega)).add (h n (by omega))

/-- The document's symbol: the sum of sources, filled up, times a row. -/
def symTo (v : Rws) (m : Nat) (row : List Nat) : Nat → List Nat
  | 0 => List.replicate m 0
  | i + 1 => plusN (symTo v m row i) (fillN (v.getD i []) m) (row.getD i 0)
theorem symTo_ok {v : Rws} {m : Nat} {row : List Nat} (hv : ∀ x ∈ v, IsByte x) : ∀ i, i ≤ v.length → (symTo v m row i).length = m ∧ IsByte (symTo v m row i)
  | 0, _ => ⟨by simp [symTo], fun n hn => by simp [symTo] at hn; omega⟩
  | i + 1, hi => by
    obtain ⟨h1, h2⟩ := symTo_ok (row := row) (m := m) hv i (by omega)
    have hb : IsByte (v.getD i []) := by
      have : v.getD i [] = v[i] := by simp [List.getD, show i < v.length by omega]
      rw [this]; exact hv _ (List.getElem_mem _)
    refine ⟨?_, plusN_byte _ _ _ h2 (fillN_byte hb m)⟩
    show (plusN _ _ _).length = m
    rw [plusN_len _ _ _ (by rw [h1, fillN_len]; exact Nat.le_refl _), h1]
theorem toV_nil (m : Nat) : toV (List.replicate m 0) = V.zero := funext fun j => GF.ext (by
  show (List.replicate m 0).getD j 0 % 256 = 0
  by_cases h : j < m
  · simp [List.getD, h]
  · simp [List.getD, List.getElem?_eq_none (show (List.replicate m 0).length ≤ j by simp; omega)])
theorem toV_sym {v : Rws} {m : Nat} {row : List Nat} (hv : ∀ x ∈ v, IsByte x) (hl : ∀ x ∈ v, x.length ≤ m) (hr : IsByte row) : ∀ i, i ≤ v.length → toV (symTo v m row i) = sumTo (fun j => V.smul (toV row j) (toV (v.getD j []))) i
  | 0, _ => toV_nil m
  | i + 1, hi => by
    obtain ⟨h1, h2⟩ := symTo_ok (row := row) (m := m) hv i (by omega)
    have e : v.getD i [] = v[i] := by simp [List.getD, show i < v.length by omega]
    have hb : IsByte (v.getD i []) := by rw [e]; exact hv _ (List.getElem_mem _)
    have hb2 : (v.getD i []).length ≤ m := by rw [e]; exact hl _ (List.getElem_mem _)
    show toV (plusN _ _ _) = V.add _ _
    rw [toV_plus h2 (fillN_byte hb m) (by rw [h1, fillN_len]) (getD_lt hr i), toV_sym hv hl hr i (by omega), toV_fillN hb hb2]
    congr 2
    exact GF.ext (toV_val hr i).symm

/-- Lines whose right is the row's symbol. -/
def Fits (n : Nat) (vs : Nat → V) (v : V) : Prop := ∀ t, v (n + t) = sumTo (fun j => V.smul (v j) (vs j)) n t
theorem Fits.zero (n : Nat) (vs : Nat → V) : Fits n vs V.zero := fun t => by
  have e : sumTo (fun j => V.smul (V.zero j) (vs j)) n = V.zero := sumTo_zero fun i hi => V.zero_smul _
  rw [e]; rfl
theorem Fits.add {n : Nat} {vs : Nat → V} {u v : V} (hu : Fits n vs u) (hv : Fits n vs v) : Fits n vs (V.add u v) := fun t => by
  have : sumTo (fun j => V.smul (V.add u v j) (vs j)) n = V.add (sumTo (fun j => V.smul (u j) (vs j)) n) (sumTo (fun j => V.smul (v j) (vs j)) n) := by
    rw [← sumTo_add]; exact sumTo_congr fun i hi => V.add_smul _ _ _
  rw [this]
  show GF.add (u (n + t)) (v (n + t)) = GF.add _ _
  rw [hu t, hv t]
theorem Fits.smul {n : Nat} {vs : Nat → V} (c : GF) {u : V} (hu : Fits n vs u) : Fits n vs (V.smul c u) := fun t => by
  have : sumTo (fun j => V.smul (V.smul c u j) (vs j)) n = V.smul c (sumTo (fun j => V.smul (u j) (vs j)) n) := by
    rw [← sumTo_smul]; exact sumTo_congr fun i hi => (V.smul_smul _ _ _).symm
  rw [this]
  show GF.mul c (u (n + t)) = GF.mul c _
  rw [hu t]

/-- Equations of known vectors tell them, if the rank is full. -/
theorem solved {M n : Nat} {D : List Ln} {steps : List St} {zs : List Ln} (h : Inv M n D steps zs) {vs : Nat → V} (hf : ∀ l ∈ D, Fits n vs (vecL n l)) (hn : n ≤ steps.length) {i : Nat} (hi : i < n) :
    toV (clearL n steps i).right = vs i := by
  have hi2 : i < steps.length := by omega
  have C := clear_any h.okS h.up hi2
  have hfit : Fits n vs (vecL n (clearL n steps i)) := by
    refine Span.all (Fits n vs) (Fits.zero n vs) (fun u v => Fits.add) (fun c u => Fits.smul c) (fun s hs => ?_) (Span.le (fun s hs => ?_) (C.inn (vecL n) (vecL_lin M n)) : Span (D.map (vecL n)) _)
    · obtain ⟨l, hl, rfl⟩ := List.mem_map.1 hs
      exact hf l hl
    · obtain ⟨x, hx, rfl⟩ := List.mem_map.1 hs
      exact h.inn (vecL n) (vecL_lin M n) x hx
  funext t
  have := hfit t
  rw [vecL_high] at this
  rw [this]
  have hfull := h.full hn
  have few := h.few
  have : sumTo (fun j => V.smul (vecL n (clearL n steps i) j) (vs j)) n = vs i := by
    rw [sumTo_one hi fun j hj hji => ?_]
    · rw [vecL_low hi]
      have := C.one hi2
      rw [hfull i hi2] at this
      rw [this, V.one_smul]
    · show V.smul (vecL n _ j) (vs j) = _
      rw [vecL_low hj]
      have := C.zero j (by omega) hji
      rw [hfull j (by omega)] at this
      rw [this, V.zero_smul]
  rw [this]
theorem solved_sound {M n : Nat} {D : List Ln} {steps : List St} {zs : List Ln} (h : Inv M n D steps zs) {vs : Nat → V} (hf : ∀ l ∈ D, Fits n vs (vecL n l)) : ∀ z ∈ zs, toV z.right = V.zero := fun z hz => by
  have hfit : Fits n vs (vecL n z) := by
    refine Span.all (Fits n vs) (Fits.zero n vs) (fun u v => Fits.add) (fun c u => Fits.smul c) (fun s hs => ?_) (h.zin (vecL n) (vecL_lin M n) z hz)
    obtain ⟨l, hl, rfl⟩ := List.mem_map.1 hs
    exact hf l hl
  funext t
  have := hfit t
  rw [vecL_high] at this
  rw [this, sumTo_zero fun j hj => ?_]
  show V.smul (vecL n z j) (vs j) = _
  rw [vecL_low hj, (h.okZ z hz).2]
  exact V.zero_smul _

/-! Any equations. -/

theorem zero_iff {l : List Nat} (h : IsByte l) : toV l = V.zero ↔ ∀ x ∈ l, x = 0 := by
  constructor
  · intro e x hx
    obtain ⟨i, hi, rfl⟩ := List.getElem_of_mem hx
    have := (toV_zero h).1 (congrFun e i)
    rwa [getD_get hi] at this
  · intro hz
    funext j
    refine (toV_zero h).2 ?_
    by_cases hj : j < l.length
    · rw [getD_get hj]; exact hz _ (List.getElem_mem hj)
    · exact getD_high (by omega)
theorem zeroTo_iff {l : List Nat} : ∀ {k}, k ≤ l.length → (zeroTo l k = true ↔ ∀ i, i < k → l.getD i 0 = 0)
  | 0, _ => by simp [zeroTo]
  | k + 1, hk => by
    simp only [zeroTo, Bool.and_eq_true, beq_iff_eq]
    rw [zeroTo_iff (by omega)]
    constructor
    · rintro ⟨h1, h2⟩ i hi
      by_cases e : i = k
      · subst e; exact h2
      · exact h1 i (by omega)
    · intro h; exact ⟨fun i hi => h i (by omega), h k (by omega)⟩
theorem zeroB_iff {l : List Nat} (h : IsByte l) : zeroB l = true ↔ toV l = V.zero := by
  unfold zeroB
  rw [zeroTo_iff (Nat.le_refl _), zero_iff h]
  constructor
  · intro hz x hx
    obtain ⟨i, hi, rfl⟩ := List.getElem_of_mem hx
    rw [← getD_get hi]; exact hz i hi
  · intro hz i hi
    rw [getD_get hi]; exact hz _ (List.getElem_mem hi)

/-- The rows with their rights behind them. -/
structure SameL (n N : Nat) (D : List Ln) (all : Rws) : Prop where
  byte : ∀ x ∈ all, IsByte x
  len : ∀ x ∈ all, x.length ≤ N
  there : ∀ x ∈ all, ∃ l ∈ D, vecL n l = toV x
  back : ∀ l ∈ D, ∃ x ∈ all, vecL n l = toV x
theorem SameL.s1 {n N : Nat} {D : List Ln} {all : Rws} (h : SameL n N D all) : ∀ s ∈ D.map (vecL n), Span (vrows (pads all N)) s := fun s hs => by
  obtain ⟨l, hl, rfl⟩ := List.mem_map.1 hs
  obtain ⟨x, hx, e⟩ := h.back l hl
  exact Span.mem (List.mem_map.2 ⟨fillN x N, List.mem_map.2 ⟨x, hx, rfl⟩, by rw [toV_fillN (h.byte x hx) (h.len x hx), e]⟩)
theorem SameL.s2 {n N : Nat} {D : List Ln} {all : Rws} (h : SameL n N D all) : ∀ s ∈ vrows (pads all N), Span (D.map (vecL n)) s := fun s hs => by
  obtain ⟨y, hy, rfl⟩ := List.mem_map.1 hs
  obtain ⟨x, hx, rfl⟩ := List.mem_map.1 hy
  obtain ⟨l, hl, e⟩ := h.there x hx
  exact Span.mem (List.mem_map.2 ⟨l, hl, by rw [toV_fillN (h.byte x hx) (h.len x hx), e]⟩)

theorem Inv.sound {M n : Nat} {D : List Ln} {steps : List St} {zs : List Ln} (h : Inv M n D steps zs) (hz : ∀ z ∈ zs, toV z.right = V.zero) {v : V} (hv : Span (D.map (vecL n)) v) : Span (steps.map fun s => vecL n s.1) v := by
  refine Span.le (fun s hs => ?_) hv
  obtain ⟨l, hl, rfl⟩ := List.mem_map.1 hs
  refine Span.le (fun x hx => ?_) (h.out (vecL n) (vecL_lin M n) l hl)
  rcases List.mem_append.1 hx with hx | hx
  · exact Span.mem hx
  · obtain ⟨z, hz', rfl⟩ := List.mem_map.1 hx
    have : vecL n z = V.zero := funext fun j => by
      by_cases hj : j < n
      · rw [vecL_low hj, (h.okZ z hz').2]
      · unfold vecL; rw [if_neg hj, hz z hz']; rfl
    rw [this]; exact Span.zero _

/-- If there is an answer, the rank with the rights is no greater. -/
theorem rank_sound {M n N : Nat} {D : List Ln} {steps : List St} {zs : List Ln} {all : Rws} (h : Inv M n D steps zs) (hs : SameL n N D all) (hz : ∀ z ∈ zs, toV z.right = V.zero) :
    (echTo (pads all N) N).2.length = steps.length := by
  have R := red_to (pads_rect (N := N) hs.byte) N
  have : (stepV (vecL n) steps).map (·.2) = (heads (echTo (pads all N) N).1 (echTo (pads all N) N).2).map (·.2) := by
    refine ech_same h.echL R.ech (fun s hs' => ?_) (fun s hs' => ?_)
    · obtain ⟨x, hx, rfl⟩ := List.mem_map.1 hs'
      exact R.whole (Span.le hs.s1 (h.inn (vecL n) (vecL_lin M n) x hx))
    · rw [stepV_1]
      exact h.sound hz (Span.le hs.s2 (R.within s hs'))
  rw [heads_map] at this
  rw [← this]; simp [stepV]
/-- If there is none, it is. -/
theorem rank_unsound {M n N : Nat} {D : List Ln} {steps : List St} {zs : List Ln} {all : Rws} (h : Inv M n D steps zs) (hs : SameL n N D all) (hn : n ≤ steps.length) {z : Ln} (hz : z ∈ zs) (hne : toV z.right ≠ V.zero) :
    n < (echTo (pads all N) N).2.length := by
  have R := red_to (pads_rect (N := N) hs.byte) N
  have few := h.few
  generalize (echTo (pads all N) N).1 = l at *
  generalize (echTo (pads all N) N).2 = P at *
  have inP : ∀ i, i < n → i ∈ P := fun i hi => by
    have hi2 : i < steps.length := by omega
    have hx := List.getElem_mem hi2
    have hld := h.echL.lead (vecL n steps[i].1, steps[i].2) (List.mem_map.2 ⟨steps[i], hx, rfl⟩)
    obtain ⟨s, hs', hl⟩ := ech_lead R.ech (R.whole (Span.le hs.s1 (h.inn (vecL n) (vecL_lin M n) _ hx))) (fun e => hld.1 (by show vecL n steps[i].1 _ = _; rw [e]; rfl))
    have : s.2 = i := (hl.one hld).trans (h.full hn i hi2)
    rw [← heads_map (l := l) (P := P), ← this]
    exact List.mem_map.2 ⟨s, hs', rfl⟩
  have outP : ∃ c ∈ P, n ≤ c := by
    have hvz : vecL n z ≠ V.zero := fun e => hne (funext fun t => by rw [← vecL_high (n := n), e]; rfl)
    obtain ⟨s, hs', hl⟩ := ech_lead R.ech (R.whole (Span.le hs.s1 (h.zin (vecL n) (vecL_lin M n) z hz))) hvz
    refine ⟨s.2, ?_, ?_⟩
    · have hm : s.2 ∈ (heads l P).map (·.2) := List.mem_map.2 ⟨s, hs', rfl⟩
      rwa [heads_map] at hm
    · rcases Nat.lt_or_ge s.2 n with h1 | h1
      · exact absurd (by rw [vecL_low h1, (h.okZ z hz).2]; rfl) hl.1
      · exact h1
  have hfil : P.filter (· < n) = List.range n := up_same (List.Pairwise.filter _ R.up) List.pairwise_lt_range fun x => by
    simp only [List.mem_filter, decide_eq_true_eq, List.mem_range]
    exact ⟨fun h => h.2, fun h => ⟨inP x h, h⟩⟩
  have hlen : (P.filter (· < n)).length = n := by rw [hfil]; simp
  obtain ⟨c, hc, hcn⟩ := outP
  have : (P.filter (· < n)).length < P.length := List.length_filter_lt_length_iff_exists.2 ⟨c, hc, by simpa using hcn⟩
  omega
/-- The answer fits. -/
theorem answer_fits {M n : Nat} {D : List Ln} {steps : List St} {zs : List Ln} (h : Inv M n D steps zs) (hz : ∀ z ∈ zs, toV z.right = V.zero) (hn : n ≤ steps.length) {l : Ln} (hl : l ∈ D) :
    toV l.right = sumTo (fun j => V.smul (rvec l j) (toV (clearL n steps j).right)) n := by
  have few := h.few
  have hfull := h.full hn
  have C : ∀ j, j < n → Clr M n steps j (clearL n steps j) := fun j hj => clear_any h.okS h.up (by omega)
  have hv : V.add (vecL n l) (sumTo (fun j => V.smul (rvec l j) (vecL n (clearL n steps j))) n) = V.zero := by
    refine ech_zero h.echL ?_ fun s hs => ?_
    · rw [stepV_1]
      exact (h.sound hz (Span.mem (List.mem_map.2 ⟨l, hl, rfl⟩))).add (span_sum fun j hj => ((C j hj).inn (vecL n) (vecL_lin M n)).smul _)
    · obtain ⟨x, hx, rfl⟩ := List.mem_map.1 hs
      obtain ⟨i, hi, rfl⟩ := List.getElem_of_mem hx
      show GF.add (vecL n l steps[i].2) (sumTo _ n steps[i].2) = GF.zero
      rw [hfull i hi]
      have hin : i < n := by omega
      rw [vecL_low hin, sumTo_at_one hin fun j hj hji => ?_]
      · show GF.add _ (GF.mul (rvec l i) (vecL n (clearL n steps i) i)) = _
        rw [vecL_low hin]
        have := (C i hin).one hi
        rw [hfull i hi] at this
        rw [this, GF.mul_one, GF.add_self]
      · show GF.mul (rvec l j) (vecL n (clearL n steps j) i) = _
        rw [vecL_low hin]
        have := (C j hj).zero i hi (Ne.symm hji)
        rw [hfull i hi] at this
        rw [this, GF.mul_zero]
  have h2 := V.eq_of_add hv
  have key : ∀ m t, sumTo (fun j => V.smul (rvec l j) (vecL n (clearL n steps j))) m (n + t) = sumTo (fun j => V.smul (rvec l j) (toV (clearL n steps j).right)) m t := fun m t => by
    induction m with
    | zero => rfl
    | succ m ih =>
      show GF.add _ (GF.mul _ (vecL n _ (n + t))) = GF.add _ (GF.mul _ _)
      rw [ih, vecL_high]
  funext t
  rw [← vecL_high (n := n), h2, key]
end Go.Proofs.Ytiglmoggpjgmbaa
