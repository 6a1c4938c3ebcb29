/-
  The document's elimination on lists of bytes: its steps, and that what comes out is the reduced echelon form of what came in. Plain mathematics.
  The program's elimination on lists of bytes: what its steps keep, and that what comes out is what the document asks. Plain mathematics.
-/
import Derived.Test.YtacncbojplmcjaaMg4
section
namespace Go.Proofs.Ytacncbojplmcjaa
set_option linter.unusedVariables false

/-- Bytes as a vector, 0 behind them. -/
def toV (l : List Nat) : V := fun j => ⟨l.getD j 0 % 256, Nat.mod_lt _ (by omega)⟩
theorem toV_val {l : List Nat} (h : IsByte l) (j : Nat) : (toV l j).1 = l.getD j 0 := Nat.mod_eq_of_lt (getD_lt h j)
theorem toV_high {l : List Nat} {j : Nat} (h : l.length ≤ j) : toV l j = GF.zero := GF.ext (by
  show l.getD j 0 % 256 = 0
  simp [List.getD, List.getElem?_eq_none h])
theorem toV_zero {l : List Nat} (h : IsByte l) {j : Nat} : toV l j = GF.zero ↔ l.getD j 0 = 0 :=
  ⟨fun e => by rw [← toV_val h]; exact congrArg Subtype.val e, fun e => GF.ext (by rw [toV_val h, e]; rfl)⟩
theorem toV_inj {l m : List Nat} (hl : IsByte l) (hm : IsByte m) (hn : l.length = m.length) (h : toV l = toV m) : l = m := by
  apply List.ext_getElem hn
  intro i h1 h2
  have := congrArg Subtype.val (congrFun h i)
  rw [toV_val hl, toV_val hm] at this
  simpa [List.getD, h1, h2] using this
def gf (c : Nat) (h : c < 256) : GF := ⟨c, h⟩
theorem toV_scale {l : List Nat} (h : IsByte l) {c : Nat} (hc : c < 256) : toV (scaleN l c) = V.smul (gf c hc) (toV l) := funext fun j => GF.ext (by
  rw [toV_val (scaleN_byte l c h)]
  show _ = mulN c (toV l j).1
  rw [toV_val h, mul_comm hc (getD_lt h j)]
  by_cases hj : j < l.length
  · simp [scaleN, List.getD, hj]
  · simp [scaleN, List.getD, List.getElem?_eq_none (show l.length ≤ j by omega), zero_mul])
theorem toV_plus {l m : List Nat} (h1 : IsByte l) (h2 : IsByte m) (hn : l.length = m.length) {c : Nat} (hc : c < 256) : toV (plusN l m c) = V.add (toV l) (V.smul (gf c hc) (toV m)) := funext fun j => GF.ext (by
  rw [toV_val (plusN_byte l m c h1 h2)]
  show _ = (toV l j).1 ^^^ mulN c (toV m j).1
  rw [toV_val h1, toV_val h2, mul_comm hc (getD_lt h2 j)]
  by_cases hj : j < l.length
  · have hk : j < (plusN l m c).length := by rw [plusN_len l m c (by omega)]; exact hj
    rw [getD_get hk, getD_get hj, getD_get (show j < m.length by omega), plusN_get l m c j hk hj (by omega)]
  · rw [getD_high (show (plusN l m c).length ≤ j by rw [plusN_len l m c (by omega)]; omega), getD_high (show l.length ≤ j by omega), getD_high (show m.length ≤ j by omega), zero_mul, Nat.xor_zero])
theorem plusN_zero {l m : List Nat} (hn : l.length ≤ m.length) : plusN l m 0 = l := by
  apply List.ext_getElem (plusN_len l m 0 hn)
  intro i h1 h2
  rw [plusN_get l m 0 i h1 h2 (by omega), mul_zero, Nat.xor_zero]

/-! The document's steps. -/

/-- The number of row i at place c. -/
def at2 (l : Rws) (i c : Nat) : Nat := (l.getD i []).getD c 0
def pivTo (l : Rws) (c r : Nat) : Nat → Option Nat
  | 0 => none
  | i + 1 => match pivTo l c r i with
    | some k => some k
    | none => if r ≤ i ∧ at2 l i c ≠ 0 then some i else none
def swapped (l : Rws) (r k c : Nat) : Rws := (l.set k (l.getD r [])).set r (scaleN (l.getD k []) (invN (at2 l k c)))
def elimTo (l : Rws) (r c : Nat) : Nat → Rws
  | 0 => l
  | i + 1 => if i ≠ r ∧ at2 (elimTo l r c i) i c ≠ 0 then (elimTo l r c i).set i (plusN ((elimTo l r c i).getD i []) ((elimTo l r c i).getD r []) (at2 (elimTo l r c i) i c)) else elimTo l r c i
def echStep (s : Rws × List Nat) (c : Nat) : Rws × List Nat :=
  match pivTo s.1 c s.2.length s.1.length with
  | none => s
  | some k => (elimTo (swapped s.1 s.2.length k c) s.2.length c s.1.length, s.2 ++ [c])
def echTo (rows : Rws) : Nat → Rws × List Nat
  | 0 => (rows, [])
  | c + 1 => echStep (echTo rows c) c

theorem pivTo_some {l : Rws} {c r k : Nat} : ∀ {n : Nat}, pivTo l c r n = some k → r ≤ k ∧ k < n ∧ at2 l k c ≠ 0
  | n + 1, h => by
    simp only [pivTo] at h
    cases hp : pivTo l c r n with
    | some k' => rw [hp] at h; cases h; have := pivTo_some hp; exact ⟨this.1, by omega, this.2.2⟩
    | none =>
      rw [hp] at h
      simp only at h
      split at h
      · cases h; rename_i hc; exact ⟨hc.1, by omega, hc.2⟩
      · cases h
theorem pivTo_none {l : Rws} {c r : Nat} : ∀ {n : Nat}, pivTo l c r n = none → ∀ i, r ≤ i → i < n → at2 l i c = 0
  | n + 1, h, i, h1, h2 => by
    simp only [pivTo] at h
    cases hp : pivTo l c r n with
    | some k' => rw [hp] at h; cases h
    | none =>
      rw [hp] at h
      simp only at h
      split at h
      · cases h
      · rename_i hc
        by_cases e : i = n
        · subst e
          by_cases h0 : at2 l i c = 0
          · exact h0
          · exact absurd ⟨h1, h0⟩ hc
        · exact pivTo_none hp i h1 (by omega)

/-- Rows of one length, of bytes. -/
structure Rect (l : Rws) (m L : Nat) : Prop where
  rows : l.length = m
  len : ∀ x ∈ l, x.length = L
  byte : ∀ x ∈ l, IsByte x
theorem Rect.get {l : Rws} {m L : Nat} (h : Rect l m L) {i : Nat} (hi : i < m) : (l.getD i []).length = L ∧ IsByte (l.getD i []) := by
  have h2 : i < l.length := by rw [h.rows]; exact hi
  have : l.getD i [] = l[i] := by simp [List.getD, h2]
  rw [this]
  exact ⟨h.len _ (List.getElem_mem h2), h.byte _ (List.getElem_mem h2)⟩
theorem Rect.at2_lt {l : Rws} {m L : Nat} (h : Rect l m L) (i c : Nat) : at2 l i c < 256 := by
  by_cases hi : i < m
  · exact getD_lt (h.get hi).2 c
  · have h2 : l.length ≤ i := by rw [h.rows]; omega
    simp [at2, List.getD, List.getElem?_eq_none h2]
theorem Rect.set {l : Rws} {m L i : Nat} {x : List Nat} (h : Rect l m L) (h1 : x.length = L) (h2 : IsByte x) : Rect (l.set i x) m L :=
  ⟨by rw [List.length_set]; exact h.rows, fun y hy => (List.mem_or_eq_of_mem_set hy).elim (h.len y) (fun e => by rw [e]; exact h1), fun y hy => (List.mem_or_eq_of_mem_set hy).elim (h.byte y) (fun e => by rw [e]; exact h2)⟩
theorem getD_set {l : Rws} {i j : Nat} {x : List Nat} (hi : i < l.length) : (l.set i x).getD j [] = if j = i then x else l.getD j [] := by
  by_cases e : j = i
  · subst e; simp [List.getD, hi]
  · simp [List.getD, List.getElem?_set_ne (Ne.symm e), e]
theorem Rect.swapped {l : Rws} {m L r k c : Nat} (h : Rect l m L) (hr : r < m) (hk : k < m) : Rect (swapped l r k c) m L := by
  refine (h.set (h.get hr).1 (h.get hr).2).set ?_ ?_
  · rw [scaleN_len]; exact (h.get hk).1
  · exact scaleN_byte _ _ (h.get hk).2
theorem swapped_get {l : Rws} {m L r k c : Nat} (h : Rect l m L) (hr : r < m) (hk : k < m) (j : Nat) :
    (swapped l r k c).getD j [] = if j = r then scaleN (l.getD k []) (invN (at2 l k c)) else if j = k then l.getD r [] else l.getD j [] := by
  unfold swapped
  rw [getD_set (by rw [List.length_set, h.rows]; exact hr)]
  split
  · rfl
  · rw [getD_set (by rw [h.rows]; exact hk)]
theorem Rect.elim {l : Rws} {m L r c : Nat} (h : Rect l m L) (hr : r < m) : ∀ i, i ≤ m → Rect (elimTo l r c i) m L
  | 0, _ => h
  | i + 1, hi => by
    have hp := Rect.elim h hr (c := c) i (by omega)
    simp only [elimTo]
    split
    · refine hp.set ?_ ?_
      · rw [plusN_len _ _ _ (by rw [(hp.get (show i < m by omega)).1, (hp.get hr).1]; exact Nat.le_refl _)]; exact (hp.get (show i < m by omega)).1
      · exact plusN_byte _ _ _ (hp.get (show i < m by omega)).2 (hp.get hr).2
    · exact hp
theorem elim_get {l : Rws} {m L r c : Nat} (h : Rect l m L) (hr : r < m) : ∀ i, i ≤ m → ∀ j, (elimTo l r c i).getD j [] = if j < i ∧ j ≠ r then plusN (l.getD j []) (l.getD r []) (at2 l j c) else l.getD j []
  | 0, _, j => by simp [elimTo]
  | i + 1, hi, j => by
    have ih := elim_get h hr (c := c) i (by omega)
    have hp := Rect.elim h hr (c := c) i (by omega)
    have hir : (elimTo l r c i).getD i [] = l.getD i [] := by rw [ih i, if_neg (by omega)]
    have hrr : (elimTo l r c i).getD r [] = l.getD r [] := by rw [ih r, if_neg (by omega)]
    have hai : at2 (elimTo l r c i) i c = at2 l i c := by unfold at2; rw [hir]
    simp only [elimTo]
    rw [hai, hir, hrr]
    by_cases hc : i ≠ r ∧ at2 l i c ≠ 0
    · rw [if_pos hc, getD_set (by rw [hp.rows]; omega)]
      by_cases e : j = i
      · subst e; rw [if_pos rfl, if_pos ⟨by omega, hc.1⟩]
      · rw [if_neg e, ih j]
        by_cases h2 : j < i ∧ j ≠ r
        · rw [if_pos h2, if_pos ⟨by omega, h2.2⟩]
        · rw [if_neg h2, if_neg (by omega)]
    · rw [if_neg hc, ih j]
      by_cases e : j = i
      · subst e
        rw [if_neg (by omega)]
        by_cases h2 : j = r
        · rw [if_neg (by omega)]
        · have h0 : at2 l j c = 0 := by
            by_cases h0 : at2 l j c = 0
            · exact h0
            · exact absurd ⟨h2, h0⟩ hc
          rw [if_pos ⟨by omega, h2⟩, h0, plusN_zero (by rw [(h.get (show j < m by omega)).1, (h.get hr).1]; exact Nat.le_refl _)]
      · by_cases h2 : j < i ∧ j ≠ r
        · rw [if_pos h2, if_pos ⟨by omega, h2.2⟩]
        · rw [if_neg h2, if_neg (by omega)]

/-! What a step does to vectors. -/

def vrow (l : Rws) (i : Nat) : V := toV (l.getD i [])
def vrows (l : Rws) : List V := l.map toV
theorem span_row {l : Rws} {i : Nat} (h : i < l.length) : Span (vrows l) (vrow l i) := by
  refine Span.mem (List.mem_map.2 ⟨l[i], List.getElem_mem h, ?_⟩)
  simp [vrow, List.getD, h]
theorem span_rows {l : Rws} {S : V → Prop} (h : ∀ i, i < l.length → S (vrow l i)) : ∀ s ∈ vrows l, S s := fun s hs => by
  obtain ⟨x, hx, rfl⟩ := List.mem_map.1 hs
  obtain ⟨i, hi, rfl⟩ := List.getElem_of_mem hx
  have := h i hi
  simpa [vrow, List.getD, hi] using this
theorem vrow_at {l : Rws} {m L : Nat} (h : Rect l m L) (i c : Nat) (hi : i < m) : vrow l i c = gf (at2 l i c) (h.at2_lt i c) := GF.ext (by
  show (toV _ c).1 = _
  rw [toV_val (h.get hi).2]; rfl)

/-- The state of the document's elimination ahead of place c. -/
structure Red (rows : Rws) (m L c : Nat) (l : Rws) (P : List Nat) : Prop where
  rect : Rect l m L
  up : P.Pairwise (· < ·)
  low : ∀ p ∈ P, p < c
  few : P.length ≤ m
  lead : ∀ i (h : i < P.length), Lead (vrow l i) P[i]
  one : ∀ i (h : i < P.length), vrow l i P[i] = GF.one
  zero : ∀ i (h : i < P.length), ∀ j, j < m → j ≠ i → vrow l j P[i] = GF.zero
  rest : ∀ i, P.length ≤ i → i < m → ∀ j, j < c → vrow l i j = GF.zero
  inn : ∀ s ∈ vrows l, Span (vrows rows) s
  out : ∀ s ∈ vrows rows, Span (vrows l) s

theorem Red.start {rows : Rws} {m L : Nat} (h : Rect rows m L) : Red rows m L 0 rows [] :=
  ⟨h, List.Pairwise.nil, by simp, Nat.zero_le _, by simp, by simp, by simp, fun i _ _ j hj => by omega, fun s hs => Span.mem hs, fun s hs => Span.mem hs⟩

theorem Red.step {rows : Rws} {m L c : Nat} {l : Rws} {P : List Nat} (h : Red rows m L c l P) : Red rows m L (c + 1) (echStep (l, P) c).1 (echStep (l, P) c).2 := by
  unfold echStep
  have hm := h.rect.rows
  cases hp : pivTo l c P.length l.length with
  | none =>
    simp only
    refine ⟨h.rect, h.up, fun p hp => by have := h.low p hp; omega, h.few, h.lead, h.one, h.zero, fun i h1 h2 j hj => ?_, h.inn, h.out⟩
    by_cases e : j = c
    · subst e
      have := pivTo_none hp i h1 (by omega)
      rw [vrow_at h.rect i j h2]
      exact GF.ext this
    · exact h.rest i h1 h2 j (by omega)
  | some k =>
    simp only
    obtain ⟨hrk, hk, hne⟩ := pivTo_some hp
    rw [hm] at hk
    have hr : P.length < m := by omega
    generalize hrr : P.length = r at *
    have R1 := h.rect.swapped (c := c) hr hk
    have R2 := R1.elim (c := c) hr l.length (by omega)
    have g1 := swapped_get h.rect hr hk (c := c)
    have g2 := elim_get R1 hr (c := c) l.length (by omega)
    rw [hm] at g2 R2 ⊢
    generalize hl1 : swapped l r k c = l1 at *
    generalize hl2 : elimTo l1 r c m = l2 at *
    -- the pivot's row
    have hkc : vrow l k c ≠ GF.zero := by
      rw [vrow_at h.rect k c hk]
      exact fun e => hne (congrArg Subtype.val e)
    have hinv : gf (invN (at2 l k c)) (invN_lt (h.rect.at2_lt k c)) = GF.inv (vrow l k c) := by rw [vrow_at h.rect k c hk]; rfl
    have y1 : vrow l1 r = V.smul (GF.inv (vrow l k c)) (vrow l k) := by
      show toV (l1.getD r []) = _
      rw [g1 r, if_pos rfl, toV_scale (h.rect.get hk).2 (invN_lt (h.rect.at2_lt k c)), hinv]; rfl
    have z1 : ∀ j, j ≠ r → vrow l1 j = if j = k then vrow l r else vrow l j := fun j hj => by
      show toV (l1.getD j []) = _
      rw [g1 j, if_neg hj]
      split <;> rfl
    have y2 : vrow l2 r = vrow l1 r := by
      show toV (l2.getD r []) = _
      rw [g2 r, if_neg (by omega)]; rfl
    have z2 : ∀ j, j < m → j ≠ r → vrow l2 j = V.add (vrow l1 j) (V.smul (vrow l1 j c) (vrow l1 r)) := fun j hj hjr => by
      show toV (l2.getD j []) = _
      rw [g2 j, if_pos ⟨hj, hjr⟩, toV_plus (R1.get hj).2 (R1.get hr).2 (by rw [(R1.get hj).1, (R1.get hr).1]) (R1.at2_lt j c), vrow_at R1 j c hj]; rfl
    -- what they are at places below c, and at c
    have kz : ∀ j, j < c → vrow l k j = GF.zero := h.rest k (by omega) hk
    have yz : ∀ j, j < c → vrow l1 r j = GF.zero := fun j hj => by rw [y1]; show GF.mul _ (vrow l k j) = _; rw [kz j hj, GF.mul_zero]
    have yc : vrow l1 r c = GF.one := by rw [y1]; exact GF.inv_mul _ hkc
    have same : ∀ i, i < m → i ≠ r → ∀ j, j < c → vrow l2 i j = vrow l1 i j := fun i hi hir j hj => by
      rw [z2 i hi hir]
      show GF.add (vrow l1 i j) (GF.mul _ (vrow l1 r j)) = _
      rw [yz j hj, GF.mul_zero, GF.add_zero]
    have atc : ∀ i, i < m → i ≠ r → vrow l2 i c = GF.zero := fun i hi hir => by
      rw [z2 i hi hir]
      show GF.add (vrow l1 i c) (GF.mul (vrow l1 i c) (vrow l1 r c)) = _
      rw [yc, GF.mul_one, GF.add_self]
    have old : ∀ i, i < r → vrow l1 i = vrow l i := fun i hi => by rw [z1 i (by omega), if_neg (by omega)]
    have low1 : ∀ i, r ≤ i → i < m → ∀ j, j < c → vrow l1 i j = GF.zero := fun i h1 h2 j hj => by
      by_cases e : i = r
      · subst e; exact yz j hj
      · rw [z1 i e]
        split
        · exact h.rest r (by omega) hr j hj
        · exact h.rest i (by omega) h2 j hj
    have pc : ∀ (i : Nat) (hi : i < P.length), P[i] < c := fun i hi => h.low _ (List.getElem_mem hi)
    refine ⟨R2, ?_, ?_, by simp; omega, ?_, ?_, ?_, ?_, ?_, ?_⟩
    · rw [List.pairwise_append]
      exact ⟨h.up, by simp, fun a ha b hb => by rw [List.mem_singleton.1 hb]; exact h.low a ha⟩
    · intro p hp
      rcases List.mem_append.1 hp with hp | hp
      · have := h.low p hp; omega
      · rw [List.mem_singleton.1 hp]; omega
    · intro i hi
      by_cases e : i < r
      · rw [List.getElem_append_left (by omega)]
        have hl := h.lead i (by omega)
        refine ⟨?_, fun j hj => ?_⟩
        · rw [same i (by omega) (by omega) _ (pc i (by omega)), old i e]; exact hl.1
        · rw [same i (by omega) (by omega) j (by have := pc i (by omega); omega), old i e]; exact hl.2 j hj
      · have e2 : i = r := by simp at hi; omega
        subst e2
        rw [List.getElem_append_right (by omega)]
        simp only [hrr, Nat.sub_self, List.getElem_cons_zero]
        refine ⟨?_, fun j hj => ?_⟩
        · rw [y2, yc]; exact GF.one_ne
        · rw [y2]; exact yz j hj
    · intro i hi
      by_cases e : i < r
      · rw [List.getElem_append_left (by omega), same i (by omega) (by omega) _ (pc i (by omega)), old i e]
        exact h.one i (by omega)
      · have e2 : i = r := by simp at hi; omega
        subst e2
        rw [List.getElem_append_right (by omega)]
        simp only [hrr, Nat.sub_self, List.getElem_cons_zero]
        rw [y2]; exact yc
    · intro i hi j hj hji
      by_cases e : i < r
      · rw [List.getElem_append_left (by omega)]
        by_cases ejr : j = r
        · subst ejr; rw [y2]; exact yz _ (pc i (by omega))
        · rw [same j hj ejr _ (pc i (by omega)), z1 j ejr]
          split
          · exact h.zero i (by omega) r hr (by omega)
          · exact h.zero i (by omega) j hj hji
      · have e2 : i = r := by simp at hi; omega
        subst e2
        rw [List.getElem_append_right (by omega)]
        simp only [hrr, Nat.sub_self, List.getElem_cons_zero]
        exact atc j hj hji
    · intro i hi1 hi2 j hj
      simp only [List.length_append, List.length_singleton, hrr] at hi1
      by_cases e : j = c
      · subst e; exact atc i hi2 (by omega)
      · rw [same i hi2 (by omega) j (by omega)]
        exact low1 i (by omega) hi2 j (by omega)
    · -- each new row is spanned
      have s1 : ∀ i, i < m → Span (vrows l) (vrow l1 i) := fun i hi => by
        by_cases e : i = r
        · subst e; rw [y1]; exact (span_row (by omega)).smul _
        · rw [z1 i e]
          split
          · exact span_row (by omega)
          · exact span_row (by omega)
      refine fun s hs => Span.le h.inn (span_rows (S := Span (vrows l)) (fun i hi => ?_) s hs)
      rw [R2.rows] at hi
      by_cases e : i = r
      · subst e; rw [y2]; exact s1 i hi
      · rw [z2 i hi e]; exact (s1 i hi).axpy _ (s1 r hr)
    · -- each old row is spanned
      have t0 : Span (vrows l2) (vrow l1 r) := by rw [← y2]; exact span_row (by rw [R2.rows]; exact hr)
      have t1 : ∀ i, i < m → Span (vrows l2) (vrow l1 i) := fun i hi => by
        by_cases e : i = r
        · subst e; exact t0
        · have : vrow l1 i = V.add (vrow l2 i) (V.smul (vrow l1 i c) (vrow l1 r)) := by
            rw [z2 i hi e, V.add_assoc, V.add_self, V.add_zero]
          rw [this]
          exact (span_row (by rw [R2.rows]; exact hi)).axpy _ t0
      have t2 : ∀ i, i < m → Span (vrows l2) (vrow l i) := fun i hi => by
        have hk2 : Span (vrows l2) (vrow l k) := by
          have : vrow l k = V.smul (vrow l k c) (vrow l1 r) := by rw [y1, V.smul_smul, GF.mul_inv _ hkc, V.one_smul]
          rw [this]; exact t0.smul _
        by_cases e : i = k
        · subst e; exact hk2
        · by_cases e2 : i = r
          · subst e2
            have := z1 k (by omega)
            rw [if_pos rfl] at this
            rw [← this]; exact t1 k hk
          · have := z1 i e2
            rw [if_neg e] at this
            rw [← this]; exact t1 i hi
      exact fun s hs => Span.le (span_rows (S := Span (vrows l2)) fun i hi => t2 i (by omega)) (h.out s hs)

theorem red_to {rows : Rws} {m L : Nat} (h : Rect rows m L) : ∀ c, Red rows m L c (echTo rows c).1 (echTo rows c).2
  | 0 => Red.start h
  | c + 1 => (red_to h c).step

/-- The rows that aren't 0, with their leads. -/
def heads (l : Rws) (P : List Nat) : List (V × Nat) := (List.range P.length).map fun i => (vrow l i, P.getD i 0)
theorem heads_map {l : Rws} {P : List Nat} : (heads l P).map (·.2) = P := by
  apply List.ext_getElem (by simp [heads])
  intro i h1 h2
  simp [heads, List.getD, h2]
theorem Red.ech {rows : Rws} {m L c : Nat} {l : Rws} {P : List Nat} (h : Red rows m L c l P) : Ech (heads l P) := by
  rw [ech_pairs, heads_map]
  refine ⟨fun s hs => ?_, h.up⟩
  obtain ⟨i, hi, rfl⟩ := List.mem_map.1 hs
  have hi' := List.mem_range.1 hi
  have := h.lead i hi'
  simpa [List.getD, hi'] using this
/-- Behind the last place what is spanned is spanned by the rows that aren't 0. -/
theorem Red.whole {rows : Rws} {m L : Nat} {l : Rws} {P : List Nat} (h : Red rows m L L l P) {v : V} (hv : Span (vrows rows) v) : Span ((heads l P).map (·.1)) v := by
  refine Span.le (fun s hs => Span.le (span_rows fun i hi => ?_) (h.out s hs)) hv
  rw [h.rect.rows] at hi
  by_cases e : i < P.length
  · refine Span.mem (List.mem_map.2 ⟨(vrow l i, P.getD i 0), List.mem_map.2 ⟨i, List.mem_range.2 e, rfl⟩, rfl⟩)
  · have : vrow l i = V.zero := funext fun j => by
      by_cases hj : j < L
      · exact h.rest i (by omega) hi j hj
      · exact toV_high (by rw [(h.rect.get hi).1]; omega)
    rw [this]; exact Span.zero _
theorem Red.within {rows : Rws} {m L c : Nat} {l : Rws} {P : List Nat} (h : Red rows m L c l P) : ∀ s ∈ heads l P, Span (vrows rows) s.1 := fun s hs => by
  obtain ⟨i, hi, rfl⟩ := List.mem_map.1 hs
  have hi' := List.mem_range.1 hi
  refine Span.le h.inn (span_row ?_)
  rw [h.rect.rows]; have := h.few; omega
end Go.Proofs.Ytacncbojplmcjaa
end

section
namespace Go.Proofs.Ytacncbojplmcjaa
set_option linter.unusedVariables false

/-- Each, and c times another that isn't longer. -/
def addW (l m : List Nat) (c : Nat) : List Nat := (List.range l.length).map fun j => l.getD j 0 ^^^ mulN (m.getD j 0) c
theorem addW_len (l m : List Nat) (c : Nat) : (addW l m c).length = l.length := by simp [addW]
theorem addW_get (l m : List Nat) (c j : Nat) (h : j < l.length) : (addW l m c).getD j 0 = l.getD j 0 ^^^ mulN (m.getD j 0) c := by
  rw [getD_get (by rw [addW_len]; exact h)]; simp [addW]
theorem addW_byte {l m : List Nat} {c : Nat} (h1 : IsByte l) (h2 : IsByte m) : IsByte (addW l m c) := fun n hn => by
  obtain ⟨j, hj, rfl⟩ := List.mem_map.1 hn
  exact xor_lt (getD_lt h1 j) (mulN_lt _ (getD_lt h2 j))
theorem toV_addW {l m : List Nat} (h1 : IsByte l) (h2 : IsByte m) (hn : m.length ≤ l.length) {c : Nat} (hc : c < 256) : toV (addW l m c) = V.add (toV l) (V.smul (gf c hc) (toV m)) := funext fun j => GF.ext (by
  rw [toV_val (addW_byte h1 h2)]
  show _ = (toV l j).1 ^^^ mulN c (toV m j).1
  rw [toV_val h1, toV_val h2, mul_comm hc (getD_lt h2 j)]
  by_cases hj : j < l.length
  · exact addW_get l m c j hj
  · rw [getD_high (show (addW l m c).length ≤ j by rw [addW_len]; omega), getD_high (show l.length ≤ j by omega), getD_high (show m.length ≤ j by omega), zero_mul, Nat.xor_zero])
theorem addW_zero {l m : List Nat} : addW l m 0 = l := by
  apply List.ext_getElem (addW_len l m 0)
  intro i h1 h2
  have := addW_get l m 0 i h2
  rw [getD_get h1, getD_get h2, mul_zero, Nat.xor_zero] at this
  exact this

/-- A row, with what stands at its right. -/
structure Ln where
  row : List Nat
  right : List Nat
def axL (l s : Ln) (c : Nat) : Ln := ⟨addW l.row s.row c, addW l.right s.right c⟩
def sclL (l : Ln) (c : Nat) : Ln := ⟨scaleN l.row c, scaleN l.right c⟩
abbrev St := Ln × Nat
def cancelN (l : Ln) (s : St) : Ln := axL l s.1 (l.row.getD s.2 0)
def runAll (l : Ln) : List St → Ln
  | [] => l
  | s :: t => runAll (cancelN l s) t
def rvec (l : Ln) : V := toV l.row
def vecL (n : Nat) (l : Ln) : V := fun j => if j < n then toV l.row j else toV l.right (j - n)
/-- A line of bytes, M of them at its right. -/
structure OkL (M : Nat) (l : Ln) : Prop where
  row : IsByte l.row
  right : IsByte l.right
  len : l.right.length = M
/-- What goes with sums and multiples of lines whose rows have n numbers at most. -/
structure LinF (M n : Nat) (φ : Ln → V) : Prop where
  ax : ∀ l s c (hc : c < 256), OkL M l → OkL M s → s.row.length ≤ l.row.length → l.row.length ≤ n → φ (axL l s c) = V.add (φ l) (V.smul (gf c hc) (φ s))
  scl : ∀ l c (hc : c < 256), OkL M l → φ (sclL l c) = V.smul (gf c hc) (φ l)
  fill : ∀ l l', l.right = l'.right → toV l.row = toV l'.row → φ l = φ l'
theorem rvec_lin (M n : Nat) : LinF M n rvec :=
  ⟨fun l s c hc h1 h2 h3 _ => toV_addW h1.row h2.row h3 hc, fun l c hc h => toV_scale h.row hc, fun l l' _ h => h⟩
theorem vecL_lin (M n : Nat) : LinF M n (vecL n) :=
  ⟨fun l s c hc h1 h2 h3 _ => funext fun j => by
    simp only [vecL, V.add, V.smul]
    split
    · exact congrFun (toV_addW h1.row h2.row h3 hc) j
    · exact congrFun (toV_addW h1.right h2.right (by rw [h1.len, h2.len]; exact Nat.le_refl _) hc) (j - n),
   fun l c hc h => funext fun j => by
    simp only [vecL, V.smul]
    split
    · exact congrFun (toV_scale h.row hc) j
    · exact congrFun (toV_scale h.right hc) (j - n),
   fun l l' h1 h2 => funext fun j => by simp only [vecL, h1, h2]⟩

theorem OkL.ax {M : Nat} {l s : Ln} {c : Nat} (h1 : OkL M l) (h2 : OkL M s) : OkL M (axL l s c) :=
  ⟨addW_byte h1.row h2.row, addW_byte h1.right h2.right, by show (addW _ _ _).length = M; rw [addW_len]; exact h1.len⟩
theorem OkL.scl {M : Nat} {l : Ln} {c : Nat} (h1 : OkL M l) : OkL M (sclL l c) :=
  ⟨scaleN_byte _ _ h1.row, scaleN_byte _ _ h1.right, by show (scaleN _ _).length = M; rw [scaleN_len]; exact h1.len⟩

/-- Steps of an echelon form: each has 1 at its lead, and nothing ahead of it. -/
structure OkS (M n : Nat) (s : St) : Prop where
  ok : OkL M s.1
  lead : Lead (rvec s.1) s.2
  one : s.1.row.getD s.2 0 = 1
  lt : s.2 < s.1.row.length
  len : s.1.row.length ≤ n
theorem runAll_len {M n : Nat} : ∀ {t : List St} {l : Ln}, OkL M l → (∀ s ∈ t, OkS M n s) → (runAll l t).row.length = l.row.length ∧ OkL M (runAll l t)
  | [], l, h, _ => ⟨rfl, h⟩
  | s :: t, l, h, hs => by
    have := runAll_len (t := t) (l := cancelN l s) (h.ax (hs s (List.mem_cons_self)).ok) (fun x hx => hs x (List.mem_cons_of_mem _ hx))
    exact ⟨this.1.trans (addW_len _ _ _), this.2⟩
/-- What stands where all steps have 0 stays. -/
theorem runAll_stay {M n : Nat} {j : Nat} : ∀ {t : List St} {l : Ln}, OkL M l → (∀ s ∈ t, OkS M n s) → (∀ s ∈ t, s.1.row.getD j 0 = 0) → (runAll l t).row.getD j 0 = l.row.getD j 0
  | [], l, h, _, _ => rfl
  | s :: t, l, h, hs, hz => by
    have := runAll_stay (t := t) (l := cancelN l s) (h.ax (hs s (List.mem_cons_self)).ok) (fun x hx => hs x (List.mem_cons_of_mem _ hx)) (fun x hx => hz x (List.mem_cons_of_mem _ hx))
    rw [show runAll l (s :: t) = runAll (cancelN l s) t from rfl, this]
    show (addW _ _ _).getD j 0 = _
    by_cases hj : j < l.row.length
    · rw [addW_get _ _ _ _ hj, hz s (List.mem_cons_self), zero_mul, Nat.xor_zero]
    · rw [getD_high (by rw [addW_len]; omega), getD_high (by omega)]
theorem ahead {M n : Nat} {s : St} (h : OkS M n s) {j : Nat} (hj : j < s.2) : s.1.row.getD j 0 = 0 := (toV_zero h.ok.row).1 (h.lead.2 j hj)
theorem runAll_clear {M n : Nat} : ∀ {t : List St} {l : Ln}, OkL M l → (∀ s ∈ t, OkS M n s) → (t.map (·.2)).Pairwise (· < ·) → (∀ s ∈ t, s.1.row.length ≤ l.row.length) → ∀ s ∈ t, (runAll l t).row.getD s.2 0 = 0
  | s :: t, l, h, hs, hp, hl, x, hx => by
    have h0 := hs s (List.mem_cons_self)
    have hs' : ∀ y ∈ t, OkS M n y := fun y hy => hs y (List.mem_cons_of_mem _ hy)
    rw [List.map_cons, List.pairwise_cons] at hp
    have hc : OkL M (cancelN l s) := h.ax h0.ok
    have hcl : (cancelN l s).row.length = l.row.length := addW_len _ _ _
    rw [show runAll l (s :: t) = runAll (cancelN l s) t from rfl]
    rcases List.mem_cons.1 hx with rfl | hx
    · rw [runAll_stay hc hs' fun y hy => ahead (hs' y hy) (hp.1 y.2 (List.mem_map.2 ⟨y, hy, rfl⟩))]
      show (addW _ _ _).getD x.2 0 = 0
      have hlt : x.2 < l.row.length := Nat.lt_of_lt_of_le h0.lt (hl x (List.mem_cons_self))
      rw [addW_get _ _ _ _ hlt, h0.one, one_mul (getD_lt h.row _), Nat.xor_self]
    · exact runAll_clear hc hs' hp.2 (fun y hy => by rw [hcl]; exact hl y (List.mem_cons_of_mem _ hy)) x hx
theorem runAll_span {M n : Nat} {φ : Ln → V} (hφ : LinF M n φ) {A : List V} : ∀ {t : List St} {l : Ln}, OkL M l → l.row.length ≤ n → (∀ s ∈ t, OkS M n s) → (∀ s ∈ t, s.1.row.length ≤ l.row.length) → (∀ s ∈ t, Span A (φ s.1)) →
    (Span A (φ l) ↔ Span A (φ (runAll l t)))
  | [], l, h, _, _, _, _ => Iff.rfl
  | s :: t, l, h, hn, hs, hl, hA => by
    have h0 := hs s (List.mem_cons_self)
    have hc : OkL M (cancelN l s) := h.ax h0.ok
    have hcl : (cancelN l s).row.length = l.row.length := addW_len _ _ _
    have e := hφ.ax l s.1 (l.row.getD s.2 0) (getD_lt h.row _) h h0.ok (hl s (List.mem_cons_self)) hn
    have hA0 := hA s (List.mem_cons_self)
    rw [show runAll l (s :: t) = runAll (cancelN l s) t from rfl, ← runAll_span hφ hc (by rw [hcl]; exact hn) (fun y hy => hs y (List.mem_cons_of_mem _ hy)) (fun y hy => by rw [hcl]; exact hl y (List.mem_cons_of_mem _ hy)) (fun y hy => hA y (List.mem_cons_of_mem _ hy))]
    show _ ↔ Span A (φ (axL l s.1 _))
    rw [e]
    refine ⟨fun h1 => h1.axpy _ hA0, fun h1 => ?_⟩
    have := h1.axpy (gf (l.row.getD s.2 0) (getD_lt h.row _)) hA0
    rw [V.add_assoc, V.add_self, V.add_zero] at this
    exact this

/-- A place for x in steps: those ahead have a smaller lead, those from there on a greater one. -/
def insAt {α : Type} (l : List α) (i : Nat) (x : α) : List α := l.take i ++ x :: l.drop i
theorem mem_insAt {α : Type} {l : List α} {i : Nat} {x y : α} : y ∈ insAt l i x ↔ y = x ∨ y ∈ l := by
  unfold insAt
  rw [List.mem_append, List.mem_cons]
  constructor
  · rintro (h | h | h)
    · exact .inr (List.mem_of_mem_take h)
    · exact .inl h
    · exact .inr (List.mem_of_mem_drop h)
  · rintro (h | h)
    · exact .inr (.inl h)
    · rw [← List.take_append_drop i l, List.mem_append] at h
      rcases h with h | h
      · exact .inl h
      · exact .inr (.inr h)
theorem insAt_length {α : Type} (l : List α) (i : Nat) (x : α) (h : i ≤ l.length) : (insAt l i x).length = l.length + 1 := by simp [insAt]; omega

/-- What the program has when some lines are done: steps, and lines of whose rows nothing is left. -/
structure Inv (M n : Nat) (done : List Ln) (steps : List St) (zs : List Ln) : Prop where
  okD : ∀ l ∈ done, OkL M l ∧ l.row.length ≤ n
  okS : ∀ s ∈ steps, OkS M n s
  up : (steps.map (·.2)).Pairwise (· < ·)
  long : ∀ s ∈ steps, ∃ l ∈ done, s.1.row.length = l.row.length
  okZ : ∀ z ∈ zs, OkL M z ∧ rvec z = V.zero
  inn : ∀ φ, LinF M n φ → ∀ s ∈ steps, Span (done.map φ) (φ s.1)
  zin : ∀ φ, LinF M n φ → ∀ z ∈ zs, Span (done.map φ) (φ z)
  out : ∀ φ, LinF M n φ → ∀ l ∈ done, Span (steps.map (fun s => φ s.1) ++ zs.map φ) (φ l)

theorem Inv.start (M n : Nat) : Inv M n [] [] [] :=
  ⟨by simp, by simp, by simp, by simp, by simp, by simp, by simp, by simp⟩

theorem span_app_left {A B : List V} {v : V} (h : Span A v) : Span (A ++ B) v := Span.le (fun s hs => Span.mem (List.mem_append_left _ hs)) h
theorem span_sub {A B : List V} {v : V} (h : ∀ x ∈ A, x ∈ B) (hv : Span A v) : Span B v := Span.le (fun s hs => Span.mem (h s hs)) hv

/-- A line of which nothing is left. -/
theorem Inv.none {M n : Nat} {done : List Ln} {steps : List St} {zs : List Ln} (h : Inv M n done steps zs) {l : Ln} (hl : OkL M l) (hn : l.row.length ≤ n) (hlong : ∀ d ∈ done, d.row.length ≤ l.row.length)
    (hz : rvec (runAll l steps) = V.zero) : Inv M n (done ++ [l]) steps (zs ++ [runAll l steps]) := by
  have hle : ∀ s ∈ steps, s.1.row.length ≤ l.row.length := fun s hs => by obtain ⟨d, hd, e⟩ := h.long s hs; rw [e]; exact hlong d hd
  have mono : ∀ φ, ∀ v, Span (done.map φ) v → Span ((done ++ [l]).map φ) v := fun φ v hv => span_sub (fun x hx => by rw [List.map_append]; exact List.mem_append_left _ hx) hv
  refine ⟨fun d hd => ?_, h.okS, h.up, fun s hs => ?_, fun z hz' => ?_, fun φ hφ s hs => mono φ _ (h.inn φ hφ s hs), fun φ hφ z hz' => ?_, fun φ hφ d hd => ?_⟩
  · rcases List.mem_append.1 hd with hd | hd
    · exact h.okD d hd
    · rw [List.mem_singleton.1 hd]; exact ⟨hl, hn⟩
  · obtain ⟨d, hd, e⟩ := h.long s hs
    exact ⟨d, List.mem_append_left _ hd, e⟩
  · rcases List.mem_append.1 hz' with hz' | hz'
    · exact h.okZ z hz'
    · rw [List.mem_singleton.1 hz']; exact ⟨(runAll_len hl h.okS).2, hz⟩
  · rcases List.mem_append.1 hz' with hz' | hz'
    · exact mono φ _ (h.zin φ hφ z hz')
    · rw [List.mem_singleton.1 hz']
      exact (runAll_span hφ hl hn h.okS hle (fun s hs => mono φ _ (h.inn φ hφ s hs))).1 (Span.mem (by simp))
  · rw [List.map_append, ← List.append_assoc]
    rcases List.mem_append.1 hd with hd | hd
    · exact span_app_left (h.out φ hφ d hd)
    · rw [List.mem_singleton.1 hd]
      refine (runAll_span hφ hl hn h.okS hle (fun s hs => Span.mem ?_)).2 (Span.mem (by simp))
      exact List.mem_append_left _ (List.mem_append_left _ (List.mem_map.2 ⟨s, hs, rfl⟩))

/-- A line that becomes a step. -/
theorem Inv.some {M n : Nat} {done : List Ln} {steps : List St} {zs : List Ln} (h : Inv M n done steps zs) {l : Ln} (hl : OkL M l) (hn : l.row.length ≤ n) (hlong : ∀ d ∈ done, d.row.length ≤ l.row.length)
    {p i : Nat} (hp : p < (runAll l steps).row.length) (hnz : (runAll l steps).row.getD p 0 ≠ 0) (hfz : ∀ j, j < p → (runAll l steps).row.getD j 0 = 0)
    (hi1 : ∀ j (hj : j < steps.length), j < i → steps[j].2 < p) (hi2 : ∀ j (hj : j < steps.length), i ≤ j → p ≤ steps[j].2) :
    Inv M n (done ++ [l]) (insAt steps i (sclL (runAll l steps) (invN ((runAll l steps).row.getD p 0)), p)) zs := by
  have hle : ∀ s ∈ steps, s.1.row.length ≤ l.row.length := fun s hs => by obtain ⟨d, hd, e⟩ := h.long s hs; rw [e]; exact hlong d hd
  have mono : ∀ φ, ∀ v, Span (done.map φ) v → Span ((done ++ [l]).map φ) v := fun φ v hv => span_sub (fun x hx => by rw [List.map_append]; exact List.mem_append_left _ hx) hv
  obtain ⟨hrl, hro⟩ := runAll_len hl h.okS
  have hclr := runAll_clear hl h.okS h.up hle
  generalize hr : runAll l steps = r at *
  generalize hc : r.row.getD p 0 = c at *
  have hc256 : c < 256 := by rw [← hc]; exact getD_lt hro.row p
  have hne : ∀ s ∈ steps, s.2 ≠ p := fun s hs e => hnz (by rw [← hc, ← e]; exact hclr s hs)
  have hcz : gf c hc256 ≠ GF.zero := fun e => hnz (congrArg Subtype.val e)
  have hx : OkS M n (sclL r (invN c), p) := by
    refine ⟨hro.scl, ⟨?_, fun j hj => ?_⟩, ?_, ?_, ?_⟩
    · show toV (scaleN r.row (invN c)) p ≠ GF.zero
      rw [toV_scale hro.row (invN_lt hc256)]
      show GF.mul _ (toV r.row p) ≠ GF.zero
      have e1 : toV r.row p = gf c hc256 := GF.ext (by rw [toV_val hro.row, hc]; rfl)
      rw [e1, show gf (invN c) (invN_lt hc256) = GF.inv (gf c hc256) from rfl, GF.inv_mul _ hcz]
      exact GF.one_ne
    · show toV (scaleN r.row (invN c)) j = GF.zero
      rw [toV_scale hro.row (invN_lt hc256)]
      show GF.mul _ (toV r.row j) = GF.zero
      rw [(toV_zero hro.row).2 (hfz j hj), GF.mul_zero]
    · show (scaleN r.row (invN c)).getD p 0 = 1
      rw [getD_get (by rw [scaleN_len]; exact hp), scaleN_get _ _ _ _ hp, ← getD_get hp, hc, invN_mul hc256 hnz]
    · show p < (scaleN r.row (invN c)).length
      rw [scaleN_len]; exact hp
    · show (scaleN r.row (invN c)).length ≤ n
      rw [scaleN_len, hrl]; exact hn
  have hxlen : (sclL r (invN c)).row.length = l.row.length := by show (scaleN _ _).length = _; rw [scaleN_len, hrl]
  refine ⟨fun d hd => ?_, fun s hs => ?_, ?_, fun s hs => ?_, h.okZ, fun φ hφ s hs => ?_, fun φ hφ z hz => mono φ _ (h.zin φ hφ z hz), fun φ hφ d hd => ?_⟩
  · rcases List.mem_append.1 hd with hd | hd
    · exact h.okD d hd
    · rw [List.mem_singleton.1 hd]; exact ⟨hl, hn⟩
  · rcases mem_insAt.1 hs with rfl | hs
    · exact hx
    · exact h.okS s hs
  · have hup := h.up
    rw [List.pairwise_map] at hup ⊢
    unfold insAt
    rw [List.pairwise_append, List.pairwise_cons]
    have hup2 := hup
    rw [← List.take_append_drop i steps, List.pairwise_append] at hup2
    have ht : ∀ s ∈ steps.take i, s.2 < p := fun s hs => by
      obtain ⟨j, hj, rfl⟩ := List.getElem_of_mem hs
      rw [List.getElem_take]
      rw [List.length_take] at hj
      exact hi1 j (by omega) (by omega)
    have hd : ∀ s ∈ steps.drop i, p < s.2 := fun s hs => by
      obtain ⟨j, hj, rfl⟩ := List.getElem_of_mem hs
      rw [List.getElem_drop]
      rw [List.length_drop] at hj
      have h1 := hi2 (i + j) (by omega) (by omega)
      have h2 := hne _ (List.getElem_mem (show i + j < steps.length by omega))
      omega
    exact ⟨hup2.1, ⟨hd, hup2.2.1⟩, fun a ha b hb => by
      rcases List.mem_cons.1 hb with rfl | hb
      · exact ht a ha
      · exact Nat.lt_trans (ht a ha) (hd b hb)⟩
  · rcases mem_insAt.1 hs with rfl | hs
    · exact ⟨l, by simp, hxlen⟩
    · obtain ⟨d, hd, e⟩ := h.long s hs
      exact ⟨d, List.mem_append_left _ hd, e⟩
  · rcases mem_insAt.1 hs with rfl | hs
    · show Span _ (φ (sclL r (invN c)))
      rw [hφ.scl r (invN c) (invN_lt hc256) hro]
      refine Span.smul _ ?_
      rw [← hr]
      exact (runAll_span hφ hl hn h.okS hle (fun s hs => mono φ _ (h.inn φ hφ s hs))).1 (Span.mem (by simp))
    · exact mono φ _ (h.inn φ hφ s hs)
  · have sub : ∀ x ∈ steps.map (fun s => φ s.1) ++ zs.map φ, x ∈ (insAt steps i (sclL r (invN c), p)).map (fun s => φ s.1) ++ zs.map φ := fun x hx => by
      rcases List.mem_append.1 hx with hx | hx
      · obtain ⟨s, hs, rfl⟩ := List.mem_map.1 hx
        exact List.mem_append_left _ (List.mem_map.2 ⟨s, mem_insAt.2 (.inr hs), rfl⟩)
      · exact List.mem_append_right _ hx
    rcases List.mem_append.1 hd with hd | hd
    · exact span_sub sub (h.out φ hφ d hd)
    · rw [List.mem_singleton.1 hd]
      refine (runAll_span hφ hl hn h.okS hle (fun s hs => Span.mem (sub _ (List.mem_append_left _ (List.mem_map.2 ⟨s, hs, rfl⟩))))).2 ?_
      have e : φ r = V.smul (gf c hc256) (φ (sclL r (invN c))) := by
        rw [hφ.scl r (invN c) (invN_lt hc256) hro, V.smul_smul, show gf (invN c) (invN_lt hc256) = GF.inv (gf c hc256) from rfl, GF.mul_inv _ hcz, V.one_smul]
      rw [hr, e]
      exact (Span.mem (List.mem_append_left _ (List.mem_map.2 ⟨_, mem_insAt.2 (.inl rfl), rfl⟩))).smul _

/-! Reduced. -/

theorem toV_fillN {l : List Nat} {n : Nat} (h : IsByte l) (hn : l.length ≤ n) : toV (fillN l n) = toV l := funext fun j => GF.ext (by
  rw [toV_val (fillN_byte h n), toV_val h]
  by_cases hj : j < n
  · exact fillN_get l n j hj
  · rw [getD_high (by rw [fillN_len]; omega), getD_high (by omega)])
/-- Step i, taken clear of those behind it. -/
def clearL (n : Nat) (steps : List St) (i : Nat) : Ln := match steps[i]? with
  | Option.some s => runAll ⟨fillN s.1.row n, s.1.right⟩ (steps.drop (i + 1))
  | Option.none => ⟨[], []⟩

structure Clr (M n : Nat) (steps : List St) (i : Nat) (r : Ln) : Prop where
  ok : OkL M r
  len : r.row.length = n
  one : ∀ (h : i < steps.length), rvec r steps[i].2 = GF.one
  zero : ∀ j (h : j < steps.length), j ≠ i → rvec r steps[j].2 = GF.zero
  inn : ∀ φ, LinF M n φ → Span (steps.map fun s => φ s.1) (φ r)

theorem clear_any {M n : Nat} {steps : List St} (okS : ∀ s ∈ steps, OkS M n s) (up : (steps.map (·.2)).Pairwise (· < ·)) {i : Nat} (hi : i < steps.length) : Clr M n steps i (clearL n steps i) := by
  have hs := okS _ (List.getElem_mem hi)
  have e : clearL n steps i = runAll ⟨fillN steps[i].1.row n, steps[i].1.right⟩ (steps.drop (i + 1)) := by unfold clearL; rw [List.getElem?_eq_getElem hi]
  rw [e]
  have hf : OkL M ⟨fillN steps[i].1.row n, steps[i].1.right⟩ := ⟨fillN_byte hs.ok.row n, hs.ok.right, hs.ok.len⟩
  have okT : ∀ s ∈ steps.drop (i + 1), OkS M n s := fun s h => okS s (List.mem_of_mem_drop h)
  have lenT : ∀ s ∈ steps.drop (i + 1), s.1.row.length ≤ (Ln.mk (fillN steps[i].1.row n) steps[i].1.right).row.length := fun s h => by
    show _ ≤ (fillN _ _).length
    rw [fillN_len]; exact (okT s h).len
  have upT : ((steps.drop (i + 1)).map (·.2)).Pairwise (· < ·) := by rw [List.map_drop]; exact List.Pairwise.sublist (List.drop_sublist _ _) up
  have ord : ∀ a b (ha : a < steps.length) (hb : b < steps.length), a < b → steps[a].2 < steps[b].2 := fun a b ha hb hab => by
    have := (List.pairwise_iff_getElem.1 up) a b (by simpa using ha) (by simpa using hb) hab
    simpa using this
  obtain ⟨h1, h2⟩ := runAll_len hf okT
  have hclr := runAll_clear hf okT upT lenT
  have stay : ∀ j, j ≤ steps[i].2 → (runAll ⟨fillN steps[i].1.row n, steps[i].1.right⟩ (steps.drop (i + 1))).row.getD j 0 = steps[i].1.row.getD j 0 := fun j hj => by
    rw [runAll_stay hf okT fun s hs' => ?_]
    · exact fillN_get _ _ _ (by have := hs.lt; have := hs.len; omega)
    · obtain ⟨q, hq, rfl⟩ := List.getElem_of_mem hs'
      rw [List.length_drop] at hq
      refine ahead (okT _ hs') ?_
      rw [List.getElem_drop]
      have := ord i (i + 1 + q) hi (by omega) (by omega)
      omega
  refine ⟨h2, ?_, fun _ => ?_, fun j hj hji => ?_, fun φ hφ => ?_⟩
  · rw [h1]; exact fillN_len _ _
  · exact GF.ext (by
      show (toV _ _).1 = 1
      rw [toV_val h2.row, stay _ (Nat.le_refl _)]; exact hs.one)
  · refine (toV_zero h2.row).2 ?_
    rcases Nat.lt_or_ge j i with h | h
    · have := ord j i hj hi h
      rw [stay _ (by omega)]; exact ahead hs this
    · refine hclr steps[j] ?_
      rw [List.mem_iff_getElem]
      exact ⟨j - (i + 1), by rw [List.length_drop]; omega, by rw [List.getElem_drop]; simp only [show i + 1 + (j - (i + 1)) = j by omega]⟩
  · have memS : ∀ s ∈ steps, Span (steps.map fun s => φ s.1) (φ s.1) := fun s hs' => Span.mem (List.mem_map.2 ⟨s, hs', rfl⟩)
    refine (runAll_span hφ hf (by show (fillN _ _).length ≤ n; rw [fillN_len]; exact Nat.le_refl _) okT lenT fun s hs' => memS s (List.mem_of_mem_drop hs')).1 ?_
    rw [hφ.fill ⟨fillN steps[i].1.row n, steps[i].1.right⟩ steps[i].1 rfl (toV_fillN hs.ok.row hs.len)]
    exact memS _ (List.getElem_mem hi)
end Go.Proofs.Ytacncbojplmcjaa
end
