/-
  Vectors over the numbers of layer 3, what they span, and echelon forms: plain mathematics; nothing of the program is named here.
-/
import Derived.Test.YtiglmoggpjgmbaaInvMath
namespace Go.Proofs.Ytiglmoggpjgmbaa
set_option linter.unusedVariables false

/-- A number of layer 3. -/
def GF : Type := {n : Nat // n < 256}
namespace GF
def zero : GF := ⟨0, by omega⟩
def one : GF := ⟨1, by omega⟩
def add (a b : GF) : GF := ⟨a.1 ^^^ b.1, xor_lt a.2 b.2⟩
def mul (a b : GF) : GF := ⟨mulN a.1 b.1, mulN_lt _ a.2⟩
def inv (a : GF) : GF := ⟨invN a.1, invN_lt a.2⟩
theorem ext {a b : GF} (h : a.1 = b.1) : a = b := Subtype.ext h
theorem add_comm (a b : GF) : add a b = add b a := ext (Nat.xor_comm _ _)
theorem add_assoc (a b c : GF) : add (add a b) c = add a (add b c) := ext (Nat.xor_assoc _ _ _)
theorem add_zero (a : GF) : add a zero = a := ext (Nat.xor_zero _)
theorem zero_add (a : GF) : add zero a = a := ext (Nat.zero_xor _)
theorem add_self (a : GF) : add a a = zero := ext (Nat.xor_self _)
theorem mul_comm (a b : GF) : mul a b = mul b a := ext (Ytiglmoggpjgmbaa.mul_comm a.2 b.2)
theorem mul_assoc (a b c : GF) : mul (mul a b) c = mul a (mul b c) := ext (Ytiglmoggpjgmbaa.mul_assoc a.2 b.2 c.2).symm
theorem mul_add (a b c : GF) : mul a (add b c) = add (mul a b) (mul a c) := ext (mul_xor_right _ _ _)
theorem add_mul (a b c : GF) : mul (add a b) c = add (mul a c) (mul b c) := ext (mul_xor_left _ a.2 b.2)
theorem mul_zero (a : GF) : mul a zero = zero := ext (Ytiglmoggpjgmbaa.mul_zero _)
theorem zero_mul (a : GF) : mul zero a = zero := ext (Ytiglmoggpjgmbaa.zero_mul _)
theorem one_mul (a : GF) : mul one a = a := ext (Ytiglmoggpjgmbaa.one_mul a.2)
theorem mul_one (a : GF) : mul a one = a := ext (Ytiglmoggpjgmbaa.mul_one a.2)
theorem mul_inv (a : GF) (h : a ≠ zero) : mul a (inv a) = one := ext (invN_mul a.2 (fun e => h (ext e)))
theorem inv_mul (a : GF) (h : a ≠ zero) : mul (inv a) a = one := by rw [mul_comm]; exact mul_inv a h
theorem one_ne : one ≠ zero := fun e => absurd (congrArg Subtype.val e) (by decide)
theorem mul_ne {a b : GF} (ha : a ≠ zero) (hb : b ≠ zero) : mul a b ≠ zero := fun e => by
  have h1 : mul (inv a) (mul a b) = zero := by rw [e, mul_zero]
  rw [← mul_assoc, inv_mul a ha, one_mul] at h1
  exact hb h1
theorem add_swap (a b c d : GF) : add (add a b) (add c d) = add (add a c) (add b d) := ext (xor_swap _ _ _ _)
theorem eq_of_add {a b : GF} (h : add a b = zero) : a = b := by
  have : add (add a b) b = b := by rw [h, zero_add]
  rw [add_assoc, add_self, add_zero] at this
  exact this
theorem em (a : GF) : a = zero ∨ a ≠ zero := by
  by_cases h : a.1 = 0
  · exact .inl (ext h)
  · exact .inr fun e => h (congrArg Subtype.val e)
end GF

/-- A vector: numbers at places. -/
def V : Type := Nat → GF
namespace V
def zero : V := fun _ => GF.zero
def add (u v : V) : V := fun j => GF.add (u j) (v j)
def smul (c : GF) (v : V) : V := fun j => GF.mul c (v j)
theorem add_comm (u v : V) : add u v = add v u := funext fun j => GF.add_comm _ _
theorem add_assoc (u v x : V) : add (add u v) x = add u (add v x) := funext fun j => GF.add_assoc _ _ _
theorem add_zero (u : V) : add u zero = u := funext fun j => GF.add_zero _
theorem zero_add (u : V) : add zero u = u := funext fun j => GF.zero_add _
theorem add_self (u : V) : add u u = zero := funext fun j => GF.add_self _
theorem smul_add (c : GF) (u v : V) : smul c (add u v) = add (smul c u) (smul c v) := funext fun j => GF.mul_add _ _ _
theorem smul_smul (c d : GF) (u : V) : smul c (smul d u) = smul (GF.mul c d) u := funext fun j => (GF.mul_assoc _ _ _).symm
theorem smul_zero (c : GF) : smul c zero = zero := funext fun j => GF.mul_zero _
theorem zero_smul (u : V) : smul GF.zero u = zero := funext fun j => GF.zero_mul _
theorem one_smul (u : V) : smul GF.one u = u := funext fun j => GF.one_mul _
theorem add_smul (c d : GF) (u : V) : smul (GF.add c d) u = add (smul c u) (smul d u) := funext fun j => GF.add_mul _ _ _
theorem add_swap (a b c d : V) : add (add a b) (add c d) = add (add a c) (add b d) := funext fun j => GF.add_swap _ _ _ _
theorem eq_of_add {u v : V} (h : add u v = zero) : u = v := funext fun j => GF.eq_of_add (congrFun h j)
end V

/-- What vectors span. -/
def Span : List V → V → Prop
  | [], v => v = V.zero
  | s :: t, v => ∃ (a : GF) (u : V), Span t u ∧ v = V.add (V.smul a s) u

theorem Span.zero : ∀ l : List V, Span l V.zero
  | [] => rfl
  | s :: t => ⟨GF.zero, V.zero, Span.zero t, by rw [V.zero_smul, V.add_zero]⟩
theorem Span.add : ∀ {l : List V} {u v : V}, Span l u → Span l v → Span l (V.add u v)
  | [], u, v, hu, hv => by rw [show u = V.zero from hu, show v = V.zero from hv]; exact V.add_zero _
  | s :: t, _, _, ⟨a, u, hu, rfl⟩, ⟨b, v, hv, rfl⟩ => ⟨GF.add a b, V.add u v, Span.add hu hv, by rw [V.add_smul, V.add_swap]⟩
theorem Span.smul : ∀ {l : List V} {u : V} (c : GF), Span l u → Span l (V.smul c u)
  | [], u, c, hu => by rw [show u = V.zero from hu]; exact V.smul_zero c
  | s :: t, _, c, ⟨a, u, hu, rfl⟩ => ⟨GF.mul c a, V.smul c u, Span.smul c hu, by rw [V.smul_add, V.smul_smul]⟩
theorem Span.axpy {l : List V} {u v : V} (c : GF) (hu : Span l u) (hv : Span l v) : Span l (V.add u (V.smul c v)) := hu.add (hv.smul c)
theorem Span.tail {s : V} {t : List V} {v : V} (h : Span t v) : Span (s :: t) v := ⟨GF.zero, v, h, by rw [V.zero_smul, V.zero_add]⟩
theorem Span.mem : ∀ {l : List V} {s : V}, s ∈ l → Span l s
  | x :: t, s, h => by
    rcases List.mem_cons.1 h with rfl | h
    · exact ⟨GF.one, V.zero, Span.zero t, by rw [V.one_smul, V.add_zero]⟩
    · exact (Span.mem h).tail
theorem Span.le : ∀ {l m : List V} {v : V}, (∀ s ∈ l, Span m s) → Span l v → Span m v
  | [], m, v, _, hv => by rw [show v = V.zero from hv]; exact Span.zero m
  | s :: t, m, _, h, ⟨a, u, hu, rfl⟩ => Span.add ((h s (List.mem_cons_self)).smul a) (Span.le (fun x hx => h x (List.mem_cons_of_mem _ hx)) hu)
/-- What holds of each, of sums and of multiples, holds of all that is spanned. -/
theorem Span.all (E : V → Prop) (h0 : E V.zero) (ha : ∀ u v, E u → E v → E (V.add u v)) (hs : ∀ c u, E u → E (V.smul c u)) : ∀ {l : List V} {v : V}, (∀ s ∈ l, E s) → Span l v → E v
  | [], v, _, hv => by rw [show v = V.zero from hv]; exact h0
  | s :: t, _, h, ⟨a, u, hu, rfl⟩ => ha _ _ (hs a _ (h s (List.mem_cons_self))) (Span.all E h0 ha hs (fun x hx => h x (List.mem_cons_of_mem _ hx)) hu)

/-- The first number of v that isn't 0 stands at p. -/
def Lead (v : V) (p : Nat) : Prop := v p ≠ GF.zero ∧ ∀ j, j < p → v j = GF.zero
theorem Lead.one {v : V} {p q : Nat} (h : Lead v p) (k : Lead v q) : p = q := by
  rcases Nat.lt_trichotomy p q with h1 | h1 | h1
  · exact absurd (k.2 p h1) h.1
  · exact h1
  · exact absurd (h.2 q h1) k.1
theorem lead_below {v : V} : ∀ n, (∃ j, j < n ∧ v j ≠ GF.zero) → ∃ p, p < n ∧ Lead v p
  | 0, ⟨j, hj, _⟩ => by omega
  | n + 1, ⟨j, hj, hv⟩ => by
    by_cases h : ∃ j, j < n ∧ v j ≠ GF.zero
    · obtain ⟨p, hp, hl⟩ := lead_below n h
      exact ⟨p, by omega, hl⟩
    · have h0 : ∀ i, i < n → v i = GF.zero := fun i hi => by
        rcases GF.em (v i) with e | e
        · exact e
        · exact absurd ⟨i, hi, e⟩ h
      have : j = n := by
        rcases Nat.lt_or_ge j n with h1 | h1
        · exact absurd (h0 j h1) hv
        · omega
      subst this
      exact ⟨j, by omega, hv, h0⟩
theorem lead_of {v : V} (h : v ≠ V.zero) : ∃ p, Lead v p := by
  by_cases e : ∃ j, v j ≠ GF.zero
  · obtain ⟨j, hj⟩ := e
    obtain ⟨p, _, hp⟩ := lead_below (j + 1) ⟨j, by omega, hj⟩
    exact ⟨p, hp⟩
  · refine absurd (funext fun j => ?_) h
    rcases GF.em (v j) with e' | e'
    · exact e'
    · exact absurd ⟨j, e'⟩ e

/-- Echelon form: rows with leads that go up. -/
def Ech : List (V × Nat) → Prop
  | [] => True
  | s :: t => Lead s.1 s.2 ∧ (∀ x ∈ t, s.2 < x.2) ∧ Ech t

theorem Ech.lead : ∀ {l : List (V × Nat)}, Ech l → ∀ s ∈ l, Lead s.1 s.2
  | s :: t, ⟨h1, _, h3⟩, x, hx => by
    rcases List.mem_cons.1 hx with rfl | hx
    · exact h1
    · exact Ech.lead h3 x hx
theorem ech_pairs : ∀ {l : List (V × Nat)}, Ech l ↔ (∀ s ∈ l, Lead s.1 s.2) ∧ (l.map (·.2)).Pairwise (· < ·)
  | [] => by simp [Ech]
  | s :: t => by
    simp only [Ech, List.map_cons, List.pairwise_cons, List.mem_cons, forall_eq_or_imp, List.mem_map, forall_exists_index, and_imp, forall_apply_eq_imp_iff₂]
    rw [ech_pairs (l := t)]
    constructor
    · rintro ⟨h1, h2, h3, h4⟩; exact ⟨⟨h1, h3⟩, h2, h4⟩
    · rintro ⟨⟨h1, h3⟩, h2, h4⟩; exact ⟨h1, h2, h3, h4⟩

theorem span_low : ∀ {l : List (V × Nat)} {p : Nat} {v : V}, Ech l → (∀ x ∈ l, p < x.2) → Span (l.map (·.1)) v → ∀ j, j ≤ p → v j = GF.zero
  | [], p, v, _, _, hv, j, hj => by rw [show v = V.zero from hv]; rfl
  | s :: t, p, _, ⟨h1, h2, h3⟩, hp, ⟨a, u, hu, rfl⟩, j, hj => by
    have hs : p < s.2 := hp s (List.mem_cons_self)
    show GF.add (GF.mul a (s.1 j)) (u j) = GF.zero
    rw [h1.2 j (by omega), GF.mul_zero, span_low h3 (fun x hx => hp x (List.mem_cons_of_mem _ hx)) hu j hj, GF.add_zero]

/-- What an echelon form spans has its first number at one of its leads. -/
theorem ech_lead : ∀ {l : List (V × Nat)} {v : V}, Ech l → Span (l.map (·.1)) v → v ≠ V.zero → ∃ s ∈ l, Lead v s.2
  | [], v, _, hv, h0 => absurd hv h0
  | s :: t, _, ⟨h1, h2, h3⟩, ⟨a, u, hu, rfl⟩, h0 => by
    have hlow := span_low h3 h2 hu
    rcases GF.em a with rfl | ha
    · rw [V.zero_smul, V.zero_add] at h0 ⊢
      obtain ⟨x, hx, hl⟩ := ech_lead h3 hu h0
      exact ⟨x, List.mem_cons_of_mem _ hx, hl⟩
    · refine ⟨s, List.mem_cons_self, ?_, fun j hj => ?_⟩
      · show GF.add (GF.mul a (s.1 s.2)) (u s.2) ≠ GF.zero
        rw [hlow s.2 (Nat.le_refl _), GF.add_zero]
        exact GF.mul_ne ha h1.1
      · show GF.add (GF.mul a (s.1 j)) (u j) = GF.zero
        rw [h1.2 j hj, GF.mul_zero, hlow j (by omega), GF.add_zero]

theorem ech_zero {l : List (V × Nat)} {v : V} (h : Ech l) (hv : Span (l.map (·.1)) v) (hz : ∀ s ∈ l, v s.2 = GF.zero) : v = V.zero := by
  by_cases h0 : v = V.zero
  · exact h0
  · obtain ⟨s, hs, hl⟩ := ech_lead h hv h0
    exact absurd (hz s hs) hl.1

/-- Two lists that go up and have the same members are the same. -/
theorem up_same : ∀ {l m : List Nat}, l.Pairwise (· < ·) → m.Pairwise (· < ·) → (∀ x, x ∈ l ↔ x ∈ m) → l = m
  | [], [], _, _, _ => rfl
  | [], b :: m, _, _, h => absurd ((h b).2 (List.mem_cons_self)) (by simp)
  | a :: l, [], _, _, h => absurd ((h a).1 (List.mem_cons_self)) (by simp)
  | a :: l, b :: m, hl, hm, h => by
    rw [List.pairwise_cons] at hl hm
    have hab : a = b := by
      have h1 := (h a).1 (List.mem_cons_self)
      have h2 := (h b).2 (List.mem_cons_self)
      rcases List.mem_cons.1 h1 with e | h1
      · exact e
      · rcases List.mem_cons.1 h2 with e | h2
        · exact e.symm
        · have := hm.1 a h1; have := hl.1 b h2; omega
    subst hab
    rw [up_same hl.2 hm.2 fun x => ⟨fun hx => ?_, fun hx => ?_⟩]
    · have h1 := (h x).1 (List.mem_cons_of_mem _ hx)
      rcases List.mem_cons.1 h1 with e | h1
      · have := hl.1 x hx; omega
      · exact h1
    · have h1 := (h x).2 (List.mem_cons_of_mem _ hx)
      rcases List.mem_cons.1 h1 with e | h1
      · have := hm.1 x hx; omega
      · exact h1

/-- Two echelon forms that span the same have the same leads. -/
theorem ech_same {l m : List (V × Nat)} (hl : Ech l) (hm : Ech m) (h1 : ∀ s ∈ l, Span (m.map (·.1)) s.1) (h2 : ∀ s ∈ m, Span (l.map (·.1)) s.1) : l.map (·.2) = m.map (·.2) := by
  have key : ∀ {l m : List (V × Nat)}, Ech l → Ech m → (∀ s ∈ l, Span (m.map (·.1)) s.1) → ∀ x, x ∈ l.map (·.2) → x ∈ m.map (·.2) := fun {l m} hl hm h1 x hx => by
    obtain ⟨s, hs, rfl⟩ := List.mem_map.1 hx
    have hld := hl.lead s hs
    obtain ⟨t, ht, hl2⟩ := ech_lead hm (h1 s hs) (fun e => hld.1 (by rw [e]; rfl))
    exact List.mem_map.2 ⟨t, ht, hl2.one hld⟩
  exact up_same (ech_pairs.1 hl).2 (ech_pairs.1 hm).2 fun x => ⟨key hl hm h1 x, key hm hl h2 x⟩

/-- How many a list that goes up can have below n. -/
theorem up_len : ∀ {l : List Nat} {n k : Nat}, l.Pairwise (· < ·) → (∀ x ∈ l, k ≤ x ∧ x < n) → l.length ≤ n - k
  | [], n, k, _, _ => Nat.zero_le _
  | a :: l, n, k, hl, h => by
    rw [List.pairwise_cons] at hl
    have ha := h a (List.mem_cons_self)
    have := up_len (n := n) (k := a + 1) hl.2 fun x hx => ⟨hl.1 x hx, (h x (List.mem_cons_of_mem _ hx)).2⟩
    simp only [List.length_cons]
    omega
/-- One that has as many as there are below n is 0, 1, .. -/
theorem up_full : ∀ {l : List Nat} {n k : Nat}, l.Pairwise (· < ·) → (∀ x ∈ l, k ≤ x ∧ x < n) → n - k ≤ l.length → ∀ i (h : i < l.length), l[i] = k + i
  | [], n, k, _, _, _, i, h => by simp at h
  | a :: l, n, k, hl, h, hn, i, hi => by
    rw [List.pairwise_cons] at hl
    have ha := h a (List.mem_cons_self)
    have h2 := up_len (n := n) (k := a + 1) hl.2 fun x hx => ⟨hl.1 x hx, (h x (List.mem_cons_of_mem _ hx)).2⟩
    simp only [List.length_cons] at hn
    have hk : a = k := by omega
    subst hk
    cases i with
    | zero => rfl
    | succ i =>
      have := up_full (n := n) (k := a + 1) hl.2 (fun x hx => ⟨hl.1 x hx, (h x (List.mem_cons_of_mem _ hx)).2⟩) (by omega) i (by simpa using hi)
      simp only [List.getElem_cons_succ]
      rw [this]; omega
end Go.Proofs.Ytiglmoggpjgmbaa
