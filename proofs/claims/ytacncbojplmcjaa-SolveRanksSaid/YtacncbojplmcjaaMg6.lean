/-
  What the program's elimination answers is what the document's does: ranks, reduced forms, solutions. Plain mathematics.
  One more at the end of a slice of numbers that the call makes.
  Powers of package field.
  Inverses of package field; the document's inverse.
  The document's Rows.
  The law's few.
-/
import Derived.Test.YtacncbojplmcjaaMg5
section
namespace Go.Proofs.Ytacncbojplmcjaa
set_option linter.unusedVariables false

theorem span_all {A B : List V} (h : ∀ s ∈ A, Span B s) {v : V} (hv : Span A v) : Span B v := Span.le h hv

/-- The program's lines are the rows, in some order. -/
structure Same (D : List Ln) (rows : Rws) : Prop where
  there : ∀ r ∈ rows, ∃ l ∈ D, l.row = r
  back : ∀ l ∈ D, l.row ∈ rows
theorem pads_rect {rows : Rws} {N : Nat} (h : ∀ r ∈ rows, IsByte r) : Rect (pads rows N) rows.length N :=
  ⟨by simp [pads], fun x hx => by obtain ⟨r, _, rfl⟩ := List.mem_map.1 hx; exact fillN_len _ _, fun x hx => by obtain ⟨r, hr, rfl⟩ := List.mem_map.1 hx; exact fillN_byte (h r hr) N⟩

def stepV (φ : Ln → V) (steps : List St) : List (V × Nat) := steps.map fun s => (φ s.1, s.2)
theorem stepV_1 (φ : Ln → V) (steps : List St) : (stepV φ steps).map (·.1) = steps.map fun s => φ s.1 := by simp [stepV]
theorem stepV_2 (φ : Ln → V) (steps : List St) : (stepV φ steps).map (·.2) = steps.map (·.2) := by simp [stepV]
theorem Inv.ech {M n : Nat} {D : List Ln} {steps : List St} {zs : List Ln} (h : Inv M n D steps zs) : Ech (stepV rvec steps) := by
  rw [ech_pairs, stepV_2]
  exact ⟨fun s hs => by obtain ⟨x, hx, rfl⟩ := List.mem_map.1 hs; exact (h.okS x hx).lead, h.up⟩
theorem vecL_low {n : Nat} {l : Ln} {j : Nat} (h : j < n) : vecL n l j = rvec l j := if_pos h
theorem vecL_high {n : Nat} {l : Ln} (t : Nat) : vecL n l (n + t) = toV l.right t := by
  unfold vecL; rw [if_neg (by omega), show n + t - n = t by omega]
theorem Inv.echL {M n : Nat} {D : List Ln} {steps : List St} {zs : List Ln} (h : Inv M n D steps zs) : Ech (stepV (vecL n) steps) := by
  rw [ech_pairs, stepV_2]
  refine ⟨fun s hs => ?_, h.up⟩
  obtain ⟨x, hx, rfl⟩ := List.mem_map.1 hs
  have k := h.okS x hx
  have hlt : x.2 < n := Nat.lt_of_lt_of_le k.lt k.len
  exact ⟨by show vecL n x.1 x.2 ≠ _; rw [vecL_low hlt]; exact k.lead.1, fun j hj => by show vecL n x.1 j = _; rw [vecL_low (Nat.lt_trans hj hlt)]; exact k.lead.2 j hj⟩

/-- Without rights nothing but the steps counts. -/
theorem Inv.rows {M n : Nat} {D : List Ln} {steps : List St} {zs : List Ln} (h : Inv M n D steps zs) {v : V} (hv : Span (D.map rvec) v) : Span (steps.map fun s => rvec s.1) v := by
  refine Span.le (fun s hs => ?_) hv
  obtain ⟨l, hl, rfl⟩ := List.mem_map.1 hs
  refine Span.le (fun x hx => ?_) (h.out rvec (rvec_lin M n) l hl)
  rcases List.mem_append.1 hx with hx | hx
  · exact Span.mem hx
  · obtain ⟨z, hz, rfl⟩ := List.mem_map.1 hx
    rw [(h.okZ z hz).2]; exact Span.zero _
theorem same_span1 {D : List Ln} {rows : Rws} {N : Nat} (hs : Same D rows) (hb : ∀ r ∈ rows, IsByte r) (hN : ∀ r ∈ rows, r.length ≤ N) : ∀ s ∈ D.map rvec, Span (vrows (pads rows N)) s := fun s h => by
  obtain ⟨l, hl, rfl⟩ := List.mem_map.1 h
  have hr := hs.back l hl
  refine Span.mem (List.mem_map.2 ⟨fillN l.row N, List.mem_map.2 ⟨l.row, hr, rfl⟩, toV_fillN (hb _ hr) (hN _ hr)⟩)
theorem same_span2 {D : List Ln} {rows : Rws} {N : Nat} (hs : Same D rows) (hb : ∀ r ∈ rows, IsByte r) (hN : ∀ r ∈ rows, r.length ≤ N) : ∀ s ∈ vrows (pads rows N), Span (D.map rvec) s := fun s h => by
  obtain ⟨x, hx, rfl⟩ := List.mem_map.1 h
  obtain ⟨r, hr, rfl⟩ := List.mem_map.1 hx
  obtain ⟨l, hl, rfl⟩ := hs.there r hr
  refine Span.mem (List.mem_map.2 ⟨l, hl, (toV_fillN (hb _ hr) (hN _ hr)).symm⟩)

/-- The leads are the document's places. -/
theorem leads_same {M n N : Nat} {D : List Ln} {steps : List St} {zs : List Ln} {rows : Rws} (h : Inv M n D steps zs) (hs : Same D rows) (hb : ∀ r ∈ rows, IsByte r) (hN : ∀ r ∈ rows, r.length ≤ N) :
    steps.map (·.2) = (echTo (pads rows N) N).2 := by
  have R := red_to (pads_rect (N := N) hb) N
  rw [← stepV_2 rvec, ← heads_map (l := (echTo (pads rows N) N).1) (P := (echTo (pads rows N) N).2)]
  refine ech_same h.ech R.ech (fun s hs' => ?_) (fun s hs' => ?_)
  · obtain ⟨x, hx, rfl⟩ := List.mem_map.1 hs'
    exact R.whole (Span.le (same_span1 hs hb hN) (h.inn rvec (rvec_lin M n) x hx))
  · rw [stepV_1]
    exact h.rows (Span.le (same_span2 hs hb hN) (R.within s hs'))

/-- Row by row the reduced form is the document's. -/
theorem reduced_same {M N : Nat} {D : List Ln} {steps : List St} {zs : List Ln} {rows : Rws} (h : Inv M N D steps zs) (hs : Same D rows) (hb : ∀ r ∈ rows, IsByte r) (hN : ∀ r ∈ rows, r.length ≤ N)
    {i : Nat} (hi : i < steps.length) : (clearL N steps i).row = (echTo (pads rows N) N).1.getD i [] := by
  have R := red_to (pads_rect (N := N) hb) N
  have hl := leads_same h hs hb hN
  have C := clear_any h.okS h.up hi
  generalize (echTo (pads rows N) N).1 = l at *
  generalize hP : (echTo (pads rows N) N).2 = P at *
  have hPl : P.length = steps.length := by rw [← hl]; simp
  have hPg : ∀ j (h1 : j < P.length) (h2 : j < steps.length), P[j] = steps[j].2 := fun j h1 h2 => by simp only [← hl, List.getElem_map]
  have hfew := R.few
  have hi2 : i < rows.length := by omega
  obtain ⟨g1, g2⟩ := R.rect.get hi2
  refine toV_inj C.ok.row g2 (by rw [C.len, g1]) (V.eq_of_add ?_)
  refine ech_zero R.ech (Span.add (R.whole ?_) ?_) fun s hs' => ?_
  · have := C.inn rvec (rvec_lin M N)
    refine Span.le (fun x hx => ?_) this
    obtain ⟨y, hy, rfl⟩ := List.mem_map.1 hx
    exact Span.le (same_span1 hs hb hN) (h.inn rvec (rvec_lin M N) y hy)
  · exact Span.mem (List.mem_map.2 ⟨(vrow l i, P.getD i 0), List.mem_map.2 ⟨i, List.mem_range.2 (by omega), rfl⟩, rfl⟩)
  · obtain ⟨j, hj, rfl⟩ := List.mem_map.1 hs'
    have hj' := List.mem_range.1 hj
    have hj2 : j < steps.length := by omega
    show GF.add (rvec (clearL N steps i) (P.getD j 0)) (vrow l i (P.getD j 0)) = GF.zero
    have e : P.getD j 0 = P[j] := by simp [List.getD, hj']
    rw [e]
    by_cases eq : j = i
    · subst eq
      rw [R.one j hj', hPg j hj' hj2, C.one hj2, GF.add_self]
    · rw [R.zero j hj' i hi2 (Ne.symm eq), hPg j hj' hj2, C.zero j hj2 eq, GF.add_zero]

/-! Full rank. -/

theorem Inv.few {M n : Nat} {D : List Ln} {steps : List St} {zs : List Ln} (h : Inv M n D steps zs) : steps.length ≤ n := by
  have := up_len (n := n) (k := 0) h.up fun x hx => by
    obtain ⟨s, hs, rfl⟩ := List.mem_map.1 hx
    have k := h.okS s hs
    exact ⟨Nat.zero_le _, Nat.lt_of_lt_of_le k.lt k.len⟩
  simpa using this
theorem Inv.full {M n : Nat} {D : List Ln} {steps : List St} {zs : List Ln} (h : Inv M n D steps zs) (hn : n ≤ steps.length) (i : Nat) (hi : i < steps.length) : steps[i].2 = i := by
  have := up_full (n := n) (k := 0) h.up (fun x hx => by
    obtain ⟨s, hs, rfl⟩ := List.mem_map.1 hx
    have k := h.okS s hs
    exact ⟨Nat.zero_le _, Nat.lt_of_lt_of_le k.lt k.len⟩) (by simpa using hn) i (by simpa using hi)
  simpa using this

/-- The sum of the first n. -/
def sumTo (f : Nat → V) : Nat → V
  | 0 => V.zero
  | n + 1 => V.add (sumTo f n) (f n)
theorem sumTo_add (f g : Nat → V) : ∀ n, sumTo (fun i => V.add (f i) (g i)) n = V.add (sumTo f n) (sumTo g n)
  | 0 => (V.add_zero _).symm
  | n + 1 => by simp only [sumTo]; rw [sumTo_add f g n, V.add_swap]
theorem sumTo_smul (c : GF) (f : Nat → V) : ∀ n, sumTo (fun i => V.smul c (f i)) n = V.smul c (sumTo f n)
  | 0 => (V.smul_zero _).symm
  | n + 1 => by simp only [sumTo]; rw [sumTo_smul c f n, V.smul_add]
theorem sumTo_congr {f g : Nat → V} : ∀ {n}, (∀ i, i < n → f i = g i) → sumTo f n = sumTo g n
  | 0, _ => rfl
  | n + 1, h => by simp only [sumTo]; rw [sumTo_congr (n := n) fun i hi => h i (by omega), h n (by omega)]
theorem sumTo_zero {f : Nat → V} : ∀ {n}, (∀ i, i < n → f i = V.zero) → sumTo f n = V.zero
  | 0, _ => rfl
  | n + 1, h => by simp only [sumTo]; rw [sumTo_zero (n := n) fun i hi => h i (by omega), h n (by omega), V.add_zero]
theorem sumTo_one {f : Nat → V} {k : Nat} : ∀ {n}, k < n → (∀ i, i < n → i ≠ k → f i = V.zero) → sumTo f n = f k
  | n + 1, hk, h => by
    simp only [sumTo]
    by_cases e : k = n
    · subst e; rw [sumTo_zero fun i hi => h i (by omega) (by omega), V.zero_add]
    · rw [sumTo_one (n := n) (by omega) fun i hi hne => h i (by omega) hne, h n (by omega) (Ne.symm e), V.add_zero]
theorem sumTo_at {f : Nat → V} {j : Nat} : ∀ {n}, (∀ i, i < n → f i j = GF.zero) → sumTo f n j = GF.zero
  | 0, _ => rfl
  | n + 1, h => by
    show GF.add (sumTo f n j) (f n j) = GF.zero
    rw [sumTo_at (n := n) fun i hi => h i (by omega), h n (by omega), GF.add_zero]
theorem sumTo_at_one {f : Nat → V} {j k : Nat} : ∀ {n}, k < n → (∀ i, i < n → i ≠ k → f i j = GF.zero) → sumTo f n j = f k j
  | n + 1, hk, h => by
    show GF.add (sumTo f n j) (f n j) = _
    by_cases e : k = n
    · subst e; rw [sumTo_at fun i hi => h i (by omega) (by omega), GF.zero_add]
    · rw [sumTo_at_one (n := n) (by omega) fun i hi hne => h i (by omega) hne, h n (by omega) (Ne.symm e), GF.add_zero]
theorem span_sum {A : List V} {f : Nat → V} : ∀ {n}, (∀ i, i < n → Span A (f i)) → Span A (sumTo f n)
  | 0, _ => Span.zero A
  | n + 1, h => (span_sum (n := n) fun i hi => h i (by omega)).add (h n (by omega))

theorem toV_nil (m : Nat) : toV (List.replicate m 0) = V.zero := funext fun j => GF.ext (by
  show (List.replicate m 0).getD j 0 % 256 = 0
  by_cases h : j < m
  · simp [List.getD, h]
  · simp [List.getD, List.getElem?_eq_none (show (List.replicate m 0).length ≤ j by simp; omega)])
theorem toV_sym {v : Rws} {m : Nat} {row : List Nat} (hv : ∀ x ∈ v, IsByte x) (hl : ∀ x ∈ v, x.length ≤ m) (hr : IsByte row) : ∀ i, i ≤ v.length → toV (symTo v m row i) = sumTo (fun j => V.smul (toV row j) (toV (v.getD j []))) i
  | 0, _ => toV_nil m
  | i + 1, hi => by
    obtain ⟨h1, h2⟩ := symTo_ok (row := row) (m := m) hv i (by omega)
    have e : v.getD i [] = v[i] := by simp [List.getD, show i < v.length by omega]
    have hb : IsByte (v.getD i []) := by rw [e]; exact hv _ (List.getElem_mem _)
    have hb2 : (v.getD i []).length ≤ m := by rw [e]; exact hl _ (List.getElem_mem _)
    show toV (plusN _ _ _) = V.add _ _
    rw [toV_plus h2 (fillN_byte hb m) (by rw [h1, fillN_len]) (getD_lt hr i), toV_sym hv hl hr i (by omega), toV_fillN hb hb2]
    congr 2
    exact GF.ext (toV_val hr i).symm

/-- Lines whose right is the row's symbol. -/
def Fits (n : Nat) (vs : Nat → V) (v : V) : Prop := ∀ t, v (n + t) = sumTo (fun j => V.smul (v j) (vs j)) n t
theorem Fits.zero (n : Nat) (vs : Nat → V) : Fits n vs V.zero := fun t => by
  have e : sumTo (fun j => V.smul (V.zero j) (vs j)) n = V.zero := sumTo_zero fun i hi => V.zero_smul _
  rw [e]; rfl
theorem Fits.add {n : Nat} {vs : Nat → V} {u v : V} (hu : Fits n vs u) (hv : Fits n vs v) : Fits n vs (V.add u v) := fun t => by
  have : sumTo (fun j => V.smul (V.add u v j) (vs j)) n = V.add (sumTo (fun j => V.smul (u j) (vs j)) n) (sumTo (fun j => V.smul (v j) (vs j)) n) := by
    rw [← sumTo_add]; exact sumTo_congr fun i hi => V.add_smul _ _ _
  rw [this]
  show GF.add (u (n + t)) (v (n + t)) = GF.add _ _
  rw [hu t, hv t]
theorem Fits.smul {n : Nat} {vs : Nat → V} (c : GF) {u : V} (hu : Fits n vs u) : Fits n vs (V.smul c u) := fun t => by
  have : sumTo (fun j => V.smul (V.smul c u j) (vs j)) n = V.smul c (sumTo (fun j => V.smul (u j) (vs j)) n) := by
    rw [← sumTo_smul]; exact sumTo_congr fun i hi => (V.smul_smul _ _ _).symm
  rw [this]
  show GF.mul c (u (n + t)) = GF.mul c _
  rw [hu t]

/-- Equations of known vectors tell them, if the rank is full. -/
theorem solved {M n : Nat} {D : List Ln} {steps : List St} {zs : List Ln} (h : Inv M n D steps zs) {vs : Nat → V} (hf : ∀ l ∈ D, Fits n vs (vecL n l)) (hn : n ≤ steps.length) {i : Nat} (hi : i < n) :
    toV (clearL n steps i).right = vs i := by
  have hi2 : i < steps.length := by omega
  have C := clear_any h.okS h.up hi2
  have hfit : Fits n vs (vecL n (clearL n steps i)) := by
    refine Span.all (Fits n vs) (Fits.zero n vs) (fun u v => Fits.add) (fun c u => Fits.smul c) (fun s hs => ?_) (Span.le (fun s hs => ?_) (C.inn (vecL n) (vecL_lin M n)) : Span (D.map (vecL n)) _)
    · obtain ⟨l, hl, rfl⟩ := List.mem_map.1 hs
      exact hf l hl
    · obtain ⟨x, hx, rfl⟩ := List.mem_map.1 hs
      exact h.inn (vecL n) (vecL_lin M n) x hx
  funext t
  have := hfit t
  rw [vecL_high] at this
  rw [this]
  have hfull := h.full hn
  have few := h.few
  have : sumTo (fun j => V.smul (vecL n (clearL n steps i) j) (vs j)) n = vs i := by
    rw [sumTo_one hi fun j hj hji => ?_]
    · rw [vecL_low hi]
      have := C.one hi2
      rw [hfull i hi2] at this
      rw [this, V.one_smul]
    · show V.smul (vecL n _ j) (vs j) = _
      rw [vecL_low hj]
      have := C.zero j (by omega) hji
      rw [hfull j (by omega)] at this
      rw [this, V.zero_smul]
  rw [this]
theorem solved_sound {M n : Nat} {D : List Ln} {steps : List St} {zs : List Ln} (h : Inv M n D steps zs) {vs : Nat → V} (hf : ∀ l ∈ D, Fits n vs (vecL n l)) : ∀ z ∈ zs, toV z.right = V.zero := fun z hz => by
  have hfit : Fits n vs (vecL n z) := by
    refine Span.all (Fits n vs) (Fits.zero n vs) (fun u v => Fits.add) (fun c u => Fits.smul c) (fun s hs => ?_) (h.zin (vecL n) (vecL_lin M n) z hz)
    obtain ⟨l, hl, rfl⟩ := List.mem_map.1 hs
    exact hf l hl
  funext t
  have := hfit t
  rw [vecL_high] at this
  rw [this, sumTo_zero fun j hj => ?_]
  show V.smul (vecL n z j) (vs j) = _
  rw [vecL_low hj, (h.okZ z hz).2]
  exact V.zero_smul _

/-! Any equations. -/

theorem zero_iff {l : List Nat} (h : IsByte l) : toV l = V.zero ↔ ∀ x ∈ l, x = 0 := by
  constructor
  · intro e x hx
    obtain ⟨i, hi, rfl⟩ := List.getElem_of_mem hx
    have := (toV_zero h).1 (congrFun e i)
    rwa [getD_get hi] at this
  · intro hz
    funext j
    refine (toV_zero h).2 ?_
    by_cases hj : j < l.length
    · rw [getD_get hj]; exact hz _ (List.getElem_mem hj)
    · exact getD_high (by omega)
theorem zeroTo_iff {l : List Nat} : ∀ {k}, k ≤ l.length → (zeroTo l k = true ↔ ∀ i, i < k → l.getD i 0 = 0)
  | 0, _ => by simp [zeroTo]
  | k + 1, hk => by
    simp only [zeroTo, Bool.and_eq_true, beq_iff_eq]
    rw [zeroTo_iff (by omega)]
    constructor
    · rintro ⟨h1, h2⟩ i hi
      by_cases e : i = k
      · subst e; exact h2
      · exact h1 i (by omega)
    · intro h; exact ⟨fun i hi => h i (by omega), h k (by omega)⟩
theorem zeroB_iff {l : List Nat} (h : IsByte l) : zeroB l = true ↔ toV l = V.zero := by
  unfold zeroB
  rw [zeroTo_iff (Nat.le_refl _), zero_iff h]
  constructor
  · intro hz x hx
    obtain ⟨i, hi, rfl⟩ := List.getElem_of_mem hx
    rw [← getD_get hi]; exact hz i hi
  · intro hz i hi
    rw [getD_get hi]; exact hz _ (List.getElem_mem hi)

/-- The rows with their rights behind them. -/
structure SameL (n N : Nat) (D : List Ln) (all : Rws) : Prop where
  byte : ∀ x ∈ all, IsByte x
  len : ∀ x ∈ all, x.length ≤ N
  there : ∀ x ∈ all, ∃ l ∈ D, vecL n l = toV x
  back : ∀ l ∈ D, ∃ x ∈ all, vecL n l = toV x
theorem SameL.s1 {n N : Nat} {D : List Ln} {all : Rws} (h : SameL n N D all) : ∀ s ∈ D.map (vecL n), Span (vrows (pads all N)) s := fun s hs => by
  obtain ⟨l, hl, rfl⟩ := List.mem_map.1 hs
  obtain ⟨x, hx, e⟩ := h.back l hl
  exact Span.mem (List.mem_map.2 ⟨fillN x N, List.mem_map.2 ⟨x, hx, rfl⟩, by rw [toV_fillN (h.byte x hx) (h.len x hx), e]⟩)
theorem SameL.s2 {n N : Nat} {D : List Ln} {all : Rws} (h : SameL n N D all) : ∀ s ∈ vrows (pads all N), Span (D.map (vecL n)) s := fun s hs => by
  obtain ⟨y, hy, rfl⟩ := List.mem_map.1 hs
  obtain ⟨x, hx, rfl⟩ := List.mem_map.1 hy
  obtain ⟨l, hl, e⟩ := h.there x hx
  exact Span.mem (List.mem_map.2 ⟨l, hl, by rw [toV_fillN (h.byte x hx) (h.len x hx), e]⟩)

theorem Inv.sound {M n : Nat} {D : List Ln} {steps : List St} {zs : List Ln} (h : Inv M n D steps zs) (hz : ∀ z ∈ zs, toV z.right = V.zero) {v : V} (hv : Span (D.map (vecL n)) v) : Span (steps.map fun s => vecL n s.1) v := by
  refine Span.le (fun s hs => ?_) hv
  obtain ⟨l, hl, rfl⟩ := List.mem_map.1 hs
  refine Span.le (fun x hx => ?_) (h.out (vecL n) (vecL_lin M n) l hl)
  rcases List.mem_append.1 hx with hx | hx
  · exact Span.mem hx
  · obtain ⟨z, hz', rfl⟩ := List.mem_map.1 hx
    have : vecL n z = V.zero := funext fun j => by
      by_cases hj : j < n
      · rw [vecL_low hj, (h.okZ z hz').2]
      · unfold vecL; rw [if_neg hj, hz z hz']; rfl
    rw [this]; exact Span.zero _

/-- If there is an answer, the rank with the rights is no greater. -/
theorem rank_sound {M n N : Nat} {D : List Ln} {steps : List St} {zs : List Ln} {all : Rws} (h : Inv M n D steps zs) (hs : SameL n N D all) (hz : ∀ z ∈ zs, toV z.right = V.zero) :
    (echTo (pads all N) N).2.length = steps.length := by
  have R := red_to (pads_rect (N := N) hs.byte) N
  have : (stepV (vecL n) steps).map (·.2) = (heads (echTo (pads all N) N).1 (echTo (pads all N) N).2).map (·.2) := by
    refine ech_same h.echL R.ech (fun s hs' => ?_) (fun s hs' => ?_)
    · obtain ⟨x, hx, rfl⟩ := List.mem_map.1 hs'
      exact R.whole (Span.le hs.s1 (h.inn (vecL n) (vecL_lin M n) x hx))
    · rw [stepV_1]
      exact h.sound hz (Span.le hs.s2 (R.within s hs'))
  rw [heads_map] at this
  rw [← this]; simp [stepV]
/-- If there is none, it is. -/
theorem rank_unsound {M n N : Nat} {D : List Ln} {steps : List St} {zs : List Ln} {all : Rws} (h : Inv M n D steps zs) (hs : SameL n N D all) (hn : n ≤ steps.length) {z : Ln} (hz : z ∈ zs) (hne : toV z.right ≠ V.zero) :
    n < (echTo (pads all N) N).2.length := by
  have R := red_to (pads_rect (N := N) hs.byte) N
  have few := h.few
  generalize (echTo (pads all N) N).1 = l at *
  generalize (echTo (pads all N) N).2 = P at *
  have inP : ∀ i, i < n → i ∈ P := fun i hi => by
    have hi2 : i < steps.length := by omega
    have hx := List.getElem_mem hi2
    have hld := h.echL.lead (vecL n steps[i].1, steps[i].2) (List.mem_map.2 ⟨steps[i], hx, rfl⟩)
    obtain ⟨s, hs', hl⟩ := ech_lead R.ech (R.whole (Span.le hs.s1 (h.inn (vecL n) (vecL_lin M n) _ hx))) (fun e => hld.1 (by show vecL n steps[i].1 _ = _; rw [e]; rfl))
    have : s.2 = i := (hl.one hld).trans (h.full hn i hi2)
    rw [← heads_map (l := l) (P := P), ← this]
    exact List.mem_map.2 ⟨s, hs', rfl⟩
  have outP : ∃ c ∈ P, n ≤ c := by
    have hvz : vecL n z ≠ V.zero := fun e => hne (funext fun t => by rw [← vecL_high (n := n), e]; rfl)
    obtain ⟨s, hs', hl⟩ := ech_lead R.ech (R.whole (Span.le hs.s1 (h.zin (vecL n) (vecL_lin M n) z hz))) hvz
    refine ⟨s.2, ?_, ?_⟩
    · have hm : s.2 ∈ (heads l P).map (·.2) := List.mem_map.2 ⟨s, hs', rfl⟩
      rwa [heads_map] at hm
    · rcases Nat.lt_or_ge s.2 n with h1 | h1
      · exact absurd (by rw [vecL_low h1, (h.okZ z hz).2]; rfl) hl.1
      · exact h1
  have hfil : P.filter (· < n) = List.range n := up_same (List.Pairwise.filter _ R.up) List.pairwise_lt_range fun x => by
    simp only [List.mem_filter, decide_eq_true_eq, List.mem_range]
    exact ⟨fun h => h.2, fun h => ⟨inP x h, h⟩⟩
  have hlen : (P.filter (· < n)).length = n := by rw [hfil]; simp
  obtain ⟨c, hc, hcn⟩ := outP
  have : (P.filter (· < n)).length < P.length := List.length_filter_lt_length_iff_exists.2 ⟨c, hc, by simpa using hcn⟩
  omega
/-- The answer fits. -/
theorem answer_fits {M n : Nat} {D : List Ln} {steps : List St} {zs : List Ln} (h : Inv M n D steps zs) (hz : ∀ z ∈ zs, toV z.right = V.zero) (hn : n ≤ steps.length) {l : Ln} (hl : l ∈ D) :
    toV l.right = sumTo (fun j => V.smul (rvec l j) (toV (clearL n steps j).right)) n := by
  have few := h.few
  have hfull := h.full hn
  have C : ∀ j, j < n → Clr M n steps j (clearL n steps j) := fun j hj => clear_any h.okS h.up (by omega)
  have hv : V.add (vecL n l) (sumTo (fun j => V.smul (rvec l j) (vecL n (clearL n steps j))) n) = V.zero := by
    refine ech_zero h.echL ?_ fun s hs => ?_
    · rw [stepV_1]
      exact (h.sound hz (Span.mem (List.mem_map.2 ⟨l, hl, rfl⟩))).add (span_sum fun j hj => ((C j hj).inn (vecL n) (vecL_lin M n)).smul _)
    · obtain ⟨x, hx, rfl⟩ := List.mem_map.1 hs
      obtain ⟨i, hi, rfl⟩ := List.getElem_of_mem hx
      show GF.add (vecL n l steps[i].2) (sumTo _ n steps[i].2) = GF.zero
      rw [hfull i hi]
      have hin : i < n := by omega
      rw [vecL_low hin, sumTo_at_one hin fun j hj hji => ?_]
      · show GF.add _ (GF.mul (rvec l i) (vecL n (clearL n steps i) i)) = _
        rw [vecL_low hin]
        have := (C i hin).one hi
        rw [hfull i hi] at this
        rw [this, GF.mul_one, GF.add_self]
      · show GF.mul (rvec l j) (vecL n (clearL n steps j) i) = _
        rw [vecL_low hin]
        have := (C j hj).zero i hi (Ne.symm hji)
        rw [hfull i hi] at this
        rw [this, GF.mul_zero]
  have h2 := V.eq_of_add hv
  have key : ∀ m t, sumTo (fun j => V.smul (rvec l j) (vecL n (clearL n steps j))) m (n + t) = sumTo (fun j => V.smul (rvec l j) (toV (clearL n steps j).right)) m t := fun m t => by
    induction m with
    | zero => rfl
    | succ m ih =>
      show GF.add _ (GF.mul _ (vecL n _ (n + t))) = GF.add _ (GF.mul _ _)
      rw [ih, vecL_high]
  funext t
  rw [← vecL_high (n := n), h2, key]
end Go.Proofs.Ytacncbojplmcjaa
end

section
namespace Go.Proofs.Ytacncbojplmcjaa
open Go.ChangeShapes Go.WideShapes Go.ChangeAt Go.RowKit Go.Joins
set_option linter.unusedVariables false

theorem infoI : (Try.prog.info? 3).map (fun i => (i.zero, i.size, i.bytes)) = some (some (.int .i64 0), 1, 8) := by kernel_rfl
/-- A slice of numbers that this call makes, by append. -/
def OwnI (B : Nat) (w : World) (v : Value) (P : List Nat) : Prop := w.ownsRow B 3 1 v P.length (P.map fun n : Nat => Value.int .i64 (n : Int))
theorem OwnI.nil (B : Nat) (w : World) : OwnI B w (.slice none 0 0) [] := World.ownsRow_nil _ _ _ _
theorem OwnI.below {B : Nat} {w w' : World} {v : Value} {P : List Nat} (h : OwnI B w v P) (k : Below w.heap.size w w') : OwnI B w' v P := by
  refine World.ownsRow.kept (row := none) h ⟨k.os, k.tape, k.output, k.size, fun j hj _ => k.block j hj⟩ ?_
  cases hv : v.ownBlock with
  | none => exact .inl rfl
  | some g => exact .inr (by simp)
/-- Another kind's block is written. -/
theorem ne_kind {w : World} {B e1 e2 s1 s2 n1 n2 : Nat} {v1 v2 : Value} {x1 x2 : List Value} (h1 : w.ownsRow B e1 s1 v1 n1 x1) (h2 : w.ownsRow B e2 s2 v2 n2 x2) (hne : e1 ≠ e2) : v1.ownBlock = none ∨ v1.ownBlock ≠ v2.ownBlock := by
  rcases h1.2 with ⟨rfl, _⟩ | ⟨g, cap, cur, rfl, _, hh, _⟩
  · exact .inl rfl
  · refine .inr fun e => ?_
    rcases h2.2 with ⟨rfl, _⟩ | ⟨g', cap', cur', rfl, _, hh', _⟩
    · simp [Value.ownBlock] at e
    · have : g = g' := by simpa [Value.ownBlock] using e
      subst this
      rw [hh] at hh'
      injection hh' with hh'
      injection hh' with _ e3
      exact hne e3
theorem OwnI.form {B : Nat} {w : World} {v : Value} {P : List Nat} (h : OwnI B w v P) : ∃ a cap, v = .slice a P.length cap ∧ cap ≤ maxLen ∧ (P = [] ∨ ∃ b, a = some ⟨b, 0, none⟩ ∧ B ≤ b ∧ ∀ i (hi : i < P.length), w.cell? ⟨b, i, none⟩ = some (.int .i64 (P[i] : Nat))) := by
  rcases h.2 with ⟨rfl, hn⟩ | ⟨g, cap, cur, rfl, hb, hh, h1, h2, h3, h4⟩
  · have : P = [] := List.eq_nil_of_length_eq_zero hn
    subst this
    exact ⟨none, 0, rfl, by simp, .inl rfl⟩
  · refine ⟨_, cap, rfl, h2, .inr ⟨g, rfl, hb, fun i hi => ?_⟩⟩
    have := World.ownsRow.cells (v := .slice (some ⟨g, 0, none⟩) P.length cap) h (g := g) rfl i (.int .i64 (P[i] : Nat)) (by simp [hi])
    by_cases hi0 : i = 0
    · subst hi0; simpa [Addr.add] using this
    · simpa [Addr.add, hi0] using this

theorem wpList_push_int {ops : Array Oper} {rest : List Oper} {o : Oper} {a : Act} {Q : Exit → Act → World → Prop} (w : World) (hgd : o.guard = none) (s x : Operand)
    (ho : o.op = .call { callee := .builtin .append, args := #[s, x], argTypes := #[29, 29] })
    (B : Nat) (v : Value) (P : List Nat) (hs : a.eval s = v) (hown : OwnI B w v P) (g : Nat) (hx : a.eval x = .slice (some ⟨g, 0, none⟩) 1 1)
    (p : Nat) (hcell : w.cell? ⟨g, 0, none⟩ = some (.int .i64 (p : Int))) (hB : B ≤ w.heap.size) (hlen : P.length ≤ 100000)
    (h : ∀ v' w', Hid (OwnI B w' v' (P ++ [p])) → w.grownBy w' v.ownBlock → wpList Try.prog ops Q rest (a.put o.dst v') w') : wpList Try.prog ops Q (o :: rest) a w := by
  obtain ⟨i0, hi, hz0, hz1, hz2⟩ := info_parts infoI
  refine wpList_append_own w hgd s x 29 ho B 3 i0 (.int .i64 0) 1 8 Try.underlying29 hi hz0 hz1 hz2 rfl (by decide) v P.length _ hs hown ⟨g, 0, none⟩ 1 1 [.int .i64 (p : Int)] hx rfl (one_cell hcell) (by simp [Value.oneCell']) (by unfold maxLen; omega) (by omega) hB ?_
  intro v' w' h1 h2 _
  exact h v' w' (by show OwnI B w' v' (P ++ [p]); unfold OwnI; simpa using h1) h2
theorem OwnI.keep_push {B : Nat} {w w' : World} {v : Value} {P : List Nat} (h : OwnI B w v P) (hg : w.grownBy w' v.ownBlock) {a : World} (k : Keep B a w) : Keep B a w' := k.grown hg (Other.of_own h (by decide))
end Go.Proofs.Ytacncbojplmcjaa
end

section
namespace Go.Proofs.Ytacncbojplmcjaa
open Go.ChangeShapes Go.WideShapes Go.ChangeAt Go.RowKit
set_option linter.unusedVariables false

theorem turns_any (n : Int) (h1 : -9223372036854775808 ≤ n) (h2 : n ≤ 9223372036854775807) (w : World) :
    Calls Try.prog 70 #[.int .i64 n] w fun e w' => e = .returned (.int .i64 (n % 255)) ∧ w = w' := by
  by_cases h : 0 ≤ n
  · go_enter Try.func70, Try.ntmps70
    go_wp2
    go_ret
    exact ⟨rfl, rfl⟩
  · have ht : n.tmod 255 = -((-n) % 255) := by
      rw [← Int.tmod_eq_emod_of_nonneg (by omega : 0 ≤ -n), Int.neg_tmod]; omega
    have HN : Hid (n % 255 = if (-n) % 255 = 0 then 0 else 255 - (-n) % 255) := Lib.hid (by split <;> omega)
    have b1 : 0 ≤ (-n) % 255 := by omega
    have b2 : (-n) % 255 < 255 := by omega
    generalize (-n) % 255 = m at *
    by_cases hm : m = 0
    · subst hm
      have HE := Lib.hid (HN.out.trans (if_pos rfl))
      go_enter Try.func70, Try.ntmps70
      go_wp2
      go_ret
      exact ⟨by rw [HE.out]; rfl, rfl⟩
    · have HE := Lib.hid (HN.out.trans (if_neg hm))
      have hl : -m < 0 := by omega
      go_enter Try.func70, Try.ntmps70
      go_wp2
      go_ret
      exact ⟨by rw [HE.out]; go_num, rfl⟩

theorem and64i (k : Nat) (hk : k < 255) : bits .and .i64 (k : Int) 1 = ((k % 2 : Nat) : Int) := and64 k (by omega)

set_option maxHeartbeats 400000 in
theorem pow_any (a : Nat) (n : Int) (ha : a < 256) (h1 : -9223372036854775808 ≤ n) (h2 : n ≤ 9223372036854775807) (w : World) :
    Calls Try.prog 57 #[.int .u8 (a : Int), .int .i64 n] w fun e w' => e = .returned (.int .u8 ((powI a n : Nat) : Int)) ∧ w = w' := by
  by_cases h0 : n = 0
  · subst h0
    have HE := Lib.hid (show powI a 0 = 1 from rfl)
    go_enter Try.func57, Try.ntmps57
    go_wp2
    go_ret
    exact ⟨by rw [HE.out]; rfl, rfl⟩
  have hn : (n == 0) = false := by simpa using h0
  by_cases ha0 : a = 0
  · subst ha0
    have HE := Lib.hid (show powI 0 n = 0 by unfold powI; rw [if_neg h0]; rfl)
    clear h0
    have hz : (((0 : Nat) : Int) == 0) = true := rfl
    go_enter Try.func57, Try.ntmps57
    go_wp2
    go_ret
    exact ⟨by rw [HE.out]; rfl, rfl⟩
  have hz : ((a : Int) == 0) = false := by simpa using ha0
  have HE := Lib.hid (show powI a n = powN a (n % 255).toNat by unfold powI; rw [if_neg h0, if_neg ha0])
  clear h0 ha0
  obtain ⟨N, hN⟩ : ∃ N : Nat, n % 255 = N := ⟨(n % 255).toNat, by omega⟩
  have hN2 : N < 255 := by omega
  have HE2 := Lib.hid (show powI a n = powN a N by rw [HE.out, hN]; rfl)
  have HN := Lib.hid hN
  clear hN HE
  go_enter Try.func57, Try.ntmps57
  go_wp2_with (go_at_call 70; refine (turns_any _ h1 h2 _).mono ?_; rintro e w' ⟨rfl, rfl⟩)
  rw [HN.out]
  go_loop [0, 5, 6] (fun x p l => ∃ A P K : Nat, A < 256 ∧ P < 256 ∧ K < 255 ∧ mulN P (powN A K) = powN a N ∧ x = .int .u8 (A : Int) ∧ p = .int .u8 (P : Int) ∧ l = .int .i64 (K : Int)) (fun _ _ l => (intOf l).toNat)
  case atStart => exact ⟨a, 1, N, ha, by omega, hN2, one_mul (powN_lt ha N), rfl, rfl, rfl⟩
  case round =>
    obtain ⟨A, P, K, hA, hP, hK, hI, rfl, rfl, rfl⟩ := hrel
    have HI := Lib.hid hI
    clear hI
    by_cases hk0 : K = 0
    · subst hk0
      have HF := Lib.hid (show P = powI a n by rw [HE2.out, ← HI.out]; exact (mul_one hP).symm)
      clear hK
      go_wp2
      go_ret
      exact ⟨ret_u8 HF.out, rfl⟩
    · have hpos : 0 < K := by omega
      have ea := and64i K hK
      have hl := mulN_lt A hA
      have hl2 := mulN_lt A hP
      by_cases hodd : K % 2 = 1
      · rw [hodd] at ea
        have HJ := Lib.hid ((pow_odd hP hA hodd).trans HI.out)
        have he : (((1 : Nat) : Int) == 1) = true := rfl
        clear hodd hk0
        go_wp2_with (go_at_call 58; refine (mul_any _ _ (by assumption) (by assumption) _).mono ?_; rintro e w' ⟨rfl, rfl⟩)
        go_round
        case rel => exact ⟨mulN A A, mulN P A, K / 2, hl, hl2, by omega, HJ.out, rfl, rfl, by first | rfl | go_num⟩
        case measure => simp [intOf]; omega
      · have hev : K % 2 = 0 := by omega
        rw [hev] at ea
        have HJ := Lib.hid ((pow_even (p := P) hA hev).trans HI.out)
        have he : (((0 : Nat) : Int) == 1) = false := rfl
        clear hodd hk0 hev
        go_wp2_with (go_at_call 58; refine (mul_any _ _ (by assumption) (by assumption) _).mono ?_; rintro e w' ⟨rfl, rfl⟩)
        go_round
        case rel => exact ⟨mulN A A, P, K / 2, hl, hP, by omega, HJ.out, rfl, rfl, by first | rfl | go_num⟩
        case measure => simp [intOf]; omega

end Go.Proofs.Ytacncbojplmcjaa
end

section
namespace Go.Proofs.Ytacncbojplmcjaa
open Go.ChangeShapes Go.WideShapes Go.ChangeAt Go.RowKit
set_option linter.unusedVariables false

theorem inv_any (a : Nat) (ha : a < 256) (w : World) :
    Calls Try.prog 46 #[.int .u8 (a : Int)] w fun e w' => e = .returned (.int .u8 ((powI a (-1) : Nat) : Int)) ∧ w = w' := by
  go_enter Try.func46, Try.ntmps46
  go_wp2_with (go_at_call 57; refine (pow_any _ _ ha (by omega) (by omega) _).mono ?_; rintro e w' ⟨rfl, rfl⟩)
  go_ret
  exact ⟨rfl, rfl⟩


set_option maxHeartbeats 400000 in
set_option maxRecDepth 100000 in
theorem refInv_any (a : Nat) (ha : a < 256) (h0 : a ≠ 0) (w : World) :
    Calls Try.prog 26 #[.int .u8 (a : Int)] w fun e w' => e = .returned (.int .u8 ((invN a : Nat) : Int)) ∧ w = w' := by
  have hi := invN_lt ha
  have HI := Lib.hid (invN_mul ha h0)
  have HU : Hid (∀ k, k < 256 → mulN a k = 1 → k = invN a) := fun k hk e => inv_one ha hk hi e HI.out
  clear h0
  obtain ⟨v, hv⟩ : ∃ v, v = invN a := ⟨_, rfl⟩
  have HV := Lib.hid hv
  rw [← hv] at hi ⊢
  clear hv
  go_enter Try.func26, Try.ntmps26
  go_wp2_with fail
  go_loop [4] (fun i => ∃ k : Nat, k ≤ 256 ∧ i = .int .i64 k ∧ Hid (∀ j, j < k → mulN a j ≠ 1)) (fun i => 256 - (intOf i).toNat)
  case atStart => exact ⟨0, by omega, rfl, fun j hj => by omega⟩
  case round =>
    obtain ⟨k, hk, rfl, HN⟩ := hrel
    by_cases hlt : k < 256
    · have hp := mulN_lt k ha
      by_cases h1 : mulN a k = 1
      · have HF := Lib.hid ((HU.out k hlt h1).trans HV.out.symm)
        have H1 := Lib.hid h1
        clear h1
        have hm := refMul_any a k ha hlt
        rw [H1.out] at hm
        have he : (((1 : Nat) : Int) == 1) = true := rfl
        clear hp
        go_wp2_with (go_at_call 12; refine (hm _).mono ?_; rintro e w' ⟨rfl, rfl⟩)
        go_ret
        exact ⟨ret_u8 HF.out, rfl⟩
      · have HX : Hid (∀ j, j < k + 1 → mulN a j ≠ 1) := fun j hj => by
          by_cases e : j = k
          · subst e; exact h1
          · exact HN.out j (by omega)
        have hm := refMul_any a k ha hlt
        generalize mulN a k = p at *
        have he : ((p : Int) == 1) = false := by simp; omega
        clear h1
        go_wp2_with (go_at_call 12; refine (hm _).mono ?_; rintro e w' ⟨rfl, rfl⟩)
        go_round
        case rel => exact ⟨k + 1, by omega, by go_num, HX⟩
        case measure => simp [intOf]; omega
    · exact absurd HI.out (by rw [← HV.out]; exact HN.out v (by omega))
end Go.Proofs.Ytacncbojplmcjaa
end

section
namespace Go.Proofs.Ytacncbojplmcjaa
open Go.ChangeShapes Go.WideShapes Go.ChangeAt Go.RowKit Go.Joins
set_option linter.unusedVariables false

/-- The longest of the first k. -/
def longTo (ls : Rws) : Nat → Nat
  | 0 => 0
  | k + 1 => max (longTo ls k) (ls.getD k []).length
def longN (ls : Rws) : Nat := longTo ls ls.length
theorem longTo_ge {ls : Rws} : ∀ {k i : Nat}, i < k → (ls.getD i []).length ≤ longTo ls k
  | k + 1, i, h => by
    by_cases e : i = k
    · subst e; exact Nat.le_max_right _ _
    · exact Nat.le_trans (longTo_ge (k := k) (by omega)) (Nat.le_max_left _ _)
theorem longN_ge {ls : Rws} : ∀ x ∈ ls, x.length ≤ longN ls := fun x hx => by
  obtain ⟨i, hi, rfl⟩ := List.getElem_of_mem hx
  rw [← getR hi]; exact longTo_ge hi
theorem longTo_le {ls : Rws} {m : Nat} (h : ∀ x ∈ ls, x.length ≤ m) : ∀ k, k ≤ ls.length → longTo ls k ≤ m
  | 0, _ => Nat.zero_le _
  | k + 1, hk => Nat.max_le.2 ⟨longTo_le h k (by omega), by rw [getR (by omega)]; exact h _ (List.getElem_mem _)⟩
theorem longN_le {ls : Rws} {m : Nat} (h : ∀ x ∈ ls, x.length ≤ m) : longN ls ≤ m := longTo_le h _ (Nat.le_refl _)


/-! Rows. -/

def RowsPost (ls : Rws) (w : World) (e : Ending) (w' : World) : Prop :=
  ∃ v, e = .returned (.tuple #[v, .int .i64 ((longN ls : Nat) : Int)]) ∧ Own w.heap.size w' v (pads ls (longN ls)) ∧ Below w.heap.size w w' ∧ (ls = [] → v = .slice none 0 0)

theorem pads_snoc {ls : Rws} {N k : Nat} (h : k < ls.length) : pads (ls.take (k + 1)) N = pads (ls.take k) N ++ [fillN ls[k] N] := by
  unfold pads
  rw [List.take_succ_eq_append_getElem h, List.map_append]; rfl
theorem pads_len (ls : Rws) (N : Nat) : (pads ls N).length = ls.length := by simp [pads]

theorem max_left {a b : Nat} (h : b ≤ a) : max a b = a := Nat.max_eq_left h
theorem max_right {a b : Nat} (h : a ≤ b) : max a b = b := Nat.max_eq_right h

set_option maxHeartbeats 1000000 in
theorem rows_any (B : Nat) (a : Option Addr) (cap : Nat) (ls : Rws) (w : World) (hB : B ≤ w.heap.size) (hs : Rs B w a cap ls) (hl : ls.length ≤ 1000) (hm : ∀ x ∈ ls, x.length ≤ 1000) :
    Calls Try.prog 16 #[.slice a ls.length cap] w (RowsPost ls w) := by
  have HS := Lib.hid hs
  have HM := Lib.hid hm
  clear hs hm
  go_enter Try.func16, Try.ntmps16
  go_wp2_with fail
  go_loop [4, 10] (fun n i => ∃ k m : Nat, k ≤ ls.length ∧ i = .int .i64 k ∧ m ≤ 1000 ∧ Hid (m = longTo ls k) ∧ n = .int .i64 (m : Int)) (fun _ i => ls.length - (intOf i).toNat)
  case atStart => exact ⟨0, 0, by omega, rfl, by omega, rfl, rfl⟩
  case round =>
    obtain ⟨k, m, hk, rfl, hm1, HT, rfl⟩ := hrel
    by_cases hlt : k < ls.length
    · obtain ⟨b, off, rfl, hb, hr⟩ := HS.out.some hlt
      obtain ⟨ai, ci, hck, hrw⟩ := hr k hlt
      have hx := HM.out _ (List.getElem_mem hlt)
      have HL : Hid (longTo ls (k + 1) = max m ls[k].length) := by show max _ _ = _; rw [HT.out, getR hlt]
      generalize ls[k] = x at *
      clear hr hrw
      go_wp2_with fail
      go_round
      case rel => exact ⟨k + 1, max m x.length, by omega, by go_num, by omega, HL.out.symm, by first | rfl | (congr 1; omega)⟩
      case measure => simp [intOf]; omega
    · obtain rfl : k = ls.length := by omega
      have HN : Hid (longN ls = m) := HT.out.symm
      go_wp2_with fail
      go_loopw [6, 23] (fun v i wr => ∃ k : Nat, k ≤ ls.length ∧ i = .int .i64 k ∧ Hid (Own w.heap.size wr v (pads (ls.take k) m)) ∧ Hid (Below w.heap.size w wr) ∧ Hid (k = 0 → v = .slice none 0 0)) (fun _ i _ => ls.length - (intOf i).toNat)
      case atStart => exact ⟨0, by omega, rfl, Own.nil _ _, Below.refl _ _, fun _ => rfl⟩
      case round =>
        obtain ⟨k, hk2, rfl, HO, HB, HZ⟩ := hrel
        by_cases hlt : k < ls.length
        · obtain ⟨b, off, rfl, hb, hr⟩ := (HS.out.keep hB (Keep.of_below HB.out)).some hlt
          obtain ⟨ai, ci, hck, hrw⟩ := hr k hlt
          have HP := Lib.hid (pads_snoc (N := m) hlt)
          have HSL := Lib.hid hrw.sl
          have HBy := Lib.hid hrw.sl.byte
          have hlen : (pads (ls.take k) m).length ≤ 100000 := by rw [pads_len, List.length_take]; omega
          generalize ls[k] = x at *
          clear hr hrw
          go_wp2_with fail
          refine (fill_any _ _ _ _ _ (by omega) HSL.out).mono ?_
          rintro e w1 ⟨rfl, hn1⟩
          have hb1 := hn1.below
          have HO1 := Lib.hid (HO.out.keep hb1)
          have hrw1 : Rw w.heap.size w1 (some ⟨wr.heap.size, 0, none⟩) m (fillN x m) := by
            have h := hn1
            rw [← fillN_len x m] at h
            have := Rw.of_new (B := w.heap.size) (by rw [fillN_len] at h ⊢; exact h) (fillN_byte HBy.out m) (by rw [fillN_len]; omega)
            rw [fillN_len] at this
            exact this
          have HR1 := Lib.hid hrw1
          have HB1 : Hid (Below w.heap.size w w1) := HB.out.trans (hb1.mono HB.out.size)
          clear hn1 hrw1 HO
          generalize wr.heap.size = g0 at *
          go_wp2_with (at_builtin; refine wpList_push_rows _ rfl _ _ rfl w.heap.size _ _ rfl (HO1.out.keep ((Below.refl _ _).alloc (Nat.le_refl _) _)) w1.heap.size rfl (some ⟨g0, 0, none⟩) m (fillN x m) (by rw [fillN_len]; simp) (HR1.out.below ((Below.refl _ _).alloc (Nat.le_refl _) _)) (by have := HB1.out.size; simp; omega) hlen ?_; intro v' w2 HO2 hk2)
          go_roundw
          case rel => exact ⟨k + 1, by omega, by go_num, by rw [HP.out]; exact HO2, (HB1.out.alloc HB1.out.size _).trans (hk2.below (by have := HB1.out.size; simp; omega)), fun e => absurd e (by omega)⟩
          case measure => simp [intOf]; omega
        · obtain rfl : k = ls.length := by omega
          rw [List.take_length] at HO
          go_wp2_with fail
          go_ret2
          exact ⟨_, by rw [HN.out]; rfl, by rw [HN.out]; exact HO.out, HB.out, fun e => HZ.out (by rw [e]; rfl)⟩
end Go.Proofs.Ytacncbojplmcjaa
end

section
namespace Go.Proofs.Ytacncbojplmcjaa
open Go.ChangeShapes Go.WideShapes Go.ChangeAt Go.RowKit Go.Joins
set_option linter.unusedVariables false

def fewB (ls : Rws) : Bool := decide (ls.length ≤ 40) && ls.all fun x => decide (x.length ≤ 40)
theorem fewB_iff {ls : Rws} : fewB ls = true ↔ ls.length ≤ 40 ∧ ∀ x ∈ ls, x.length ≤ 40 := by simp [fewB]

end Go.Proofs.Ytacncbojplmcjaa
end
