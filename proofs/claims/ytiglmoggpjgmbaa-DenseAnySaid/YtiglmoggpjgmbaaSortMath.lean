/-
  A stable sort by merges in place: what swaps, rotations and merges do to an array. Plain mathematics.
-/
import Derived.Sort.LotA
namespace Go.Proofs.Ytiglmoggpjgmbaa
set_option linter.unusedVariables false
variable {α : Type} [Inhabited α] {lt : α → α → Bool}
open Go.Sort (swp PermIn SortedIn SWO)

theorem pm_refl (d : Array α) (a b : Nat) : PermIn a b d d := Sort.permIn_refl d a b
theorem pm_trans {d d' d'' : Array α} {a b : Nat} (h : PermIn a b d d') (k : PermIn a b d' d'') : PermIn a b d d'' := Sort.permIn_trans _ _ _ _ _ h k
theorem pm_mono {d d' : Array α} {a b a' b' : Nat} (h1 : a' ≤ a) (h2 : b ≤ b') (h3 : b' ≤ d.size) (h : PermIn a b d d') : PermIn a' b' d d' := Sort.permIn_mono _ _ _ _ _ _ h1 h2 h3 h
theorem pm_swp {d : Array α} {a b i j : Nat} (h1 : a ≤ i) (h2 : i < b) (h3 : a ≤ j) (h4 : j < b) (h5 : b ≤ d.size) : PermIn a b d (swp d i j) := Sort.swp_permIn _ _ _ _ _ h1 h2 h3 h4 h5
theorem pm_all {d d' : Array α} {a b : Nat} {p : α → Prop} (hb : b ≤ d.size) (h : PermIn a b d d') (hp : ∀ i, a ≤ i → i < b → p d[i]!) : ∀ i, a ≤ i → i < b → p d'[i]! := Sort.permIn_all _ _ _ _ p hb h hp
theorem swp_at (d : Array α) {i j : Nat} (hi : i < d.size) (hj : j < d.size) (k : Nat) : (swp d i j)[k]! = if k = i then d[j]! else if k = j then d[i]! else d[k]! := by
  by_cases h1 : k = i
  · subst h1
    rw [if_pos rfl]
    by_cases h2 : k = j
    · subst h2; exact Sort.swp_right _ _ _ hi
    · exact Sort.swp_left _ _ _ hi h2
  · rw [if_neg h1]
    by_cases h2 : k = j
    · subst h2; rw [if_pos rfl]; exact Sort.swp_right _ _ _ hj
    · rw [if_neg h2]; exact Sort.swp_other _ _ _ _ h1 h2

/-! Two stretches exchanged. -/
/-- The first k places of the stretches from a and from b on are exchanged. -/
structure Swr (a b n : Nat) (d d' : Array α) : Prop where
  size : d'.size = d.size
  perm : PermIn a (b + n) d d'
  at' : ∀ x, d'[x]! = if a ≤ x ∧ x < a + n then d[x - a + b]! else if b ≤ x ∧ x < b + n then d[x - b + a]! else d[x]!
theorem Swr.start (a b : Nat) (d : Array α) : Swr a b 0 d d := ⟨rfl, pm_refl _ _ _, fun x => by rw [if_neg (by omega), if_neg (by omega)]⟩
theorem Swr.step {a b n : Nat} {d d' : Array α} (h : Swr a b n d d') (hab : a + n < b) (hb : b + n < d.size) : Swr a b (n + 1) d (swp d' (a + n) (b + n)) := by
  have hs := h.size
  refine ⟨by rw [Sort.size_swp, hs], ?_, fun x => ?_⟩
  · exact pm_trans (pm_mono (Nat.le_refl _) (by omega) (by omega) h.perm) (pm_swp (by omega) (by omega) (by omega) (by omega) (by omega))
  · rw [swp_at d' (by omega) (by omega)]
    by_cases h1 : x = a + n
    · subst h1
      rw [if_pos rfl, if_pos (by omega), h.at', if_neg (by omega), if_neg (by omega), show a + n - a + b = b + n by omega]
    · rw [if_neg h1]
      by_cases h2 : x = b + n
      · subst h2
        rw [if_pos rfl, if_neg (by omega), if_pos (by omega), h.at', if_neg (by omega), if_neg (by omega), show b + n - b + a = a + n by omega]
      · rw [if_neg h2, h.at']
        by_cases h3 : a ≤ x ∧ x < a + n
        · rw [if_pos h3, if_pos (by omega)]
        · rw [if_neg h3]
          by_cases h4 : b ≤ x ∧ x < b + n
          · rw [if_pos h4, if_neg (by omega), if_pos (by omega)]
          · rw [if_neg h4, if_neg (by omega), if_neg (by omega)]

/-! Rotations. -/
/-- What stood from m on up to b stands ahead of what stood from a on up to m. -/
def RotV (a m b : Nat) (d d' : Array α) : Prop := ∀ x, d'[x]! = if a ≤ x ∧ x < a + (b - m) then d[x + (m - a)]! else if a + (b - m) ≤ x ∧ x < b then d[x - (b - m)]! else d[x]!
structure Rot (a m b : Nat) (d d' : Array α) : Prop where
  perm : PermIn a b d d'
  at' : RotV a m b d d'
/-- What is left to be done for a rotation. -/
structure RotL (a m b i j : Nat) (d dk : Array α) : Prop where
  size : dk.size = d.size
  lo : a + i ≤ m
  hi : m + j ≤ b
  perm : PermIn a b d dk
  rest : ∀ d', RotV (m - i) m (m + j) dk d' → RotV a m b d d'
theorem RotL.start {a m b : Nat} (h1 : a ≤ m) (h2 : m ≤ b) (d : Array α) : RotL a m b (m - a) (b - m) d d :=
  ⟨rfl, by omega, by omega, pm_refl _ _ _, fun d' h => by rw [show m - (m - a) = a by omega, show m + (b - m) = b by omega] at h; exact h⟩
theorem RotL.left {a m b i j : Nat} {d dk dk' : Array α} (h : RotL a m b i j d dk) (hb : b ≤ d.size) (hij : j < i) (hs : Swr (m - i) m j dk dk') : RotL a m b (i - j) j d dk' := by
  have h1 := h.lo
  have h2 := h.hi
  have h3 := h.size
  refine ⟨by rw [hs.size, h3], by omega, h2, pm_trans h.perm (pm_mono (by omega) (by omega) (by omega) hs.perm), fun d' hd => h.rest d' fun x => ?_⟩
  rw [hd x]
  by_cases c1 : m - i ≤ x ∧ x < m - i + j
  · rw [if_neg (by omega), if_neg (by omega), hs.at', if_pos (by omega), if_pos (by omega)]
    congr 1; omega
  · by_cases c2 : m - (i - j) ≤ x ∧ x < m - (i - j) + (m + j - m)
    · rw [if_pos c2, hs.at']
      by_cases c3 : m ≤ x + (m - (m - (i - j)))
      · rw [if_neg (by omega), if_pos (by omega), if_neg (by omega), if_pos (by omega)]
        congr 1; omega
      · rw [if_neg (by omega), if_neg (by omega), if_neg (by omega), if_pos (by omega)]
        congr 1; omega
    · rw [if_neg c2]
      by_cases c3 : m - (i - j) + (m + j - m) ≤ x ∧ x < m + j
      · rw [if_pos c3, hs.at']
        rw [if_neg (by omega)]
        rw [if_neg (by omega), if_neg (by omega), if_pos (by omega)]
      · rw [if_neg c3, hs.at', if_neg (by omega), if_neg (by omega), if_neg (by omega), if_neg (by omega)]
theorem RotL.right {a m b i j : Nat} {d dk dk' : Array α} (h : RotL a m b i j d dk) (hb : b ≤ d.size) (hij : i < j) (hs : Swr (m - i) (m + j - i) i dk dk') : RotL a m b i (j - i) d dk' := by
  have h1 := h.lo
  have h2 := h.hi
  have h3 := h.size
  refine ⟨by rw [hs.size, h3], h1, by omega, pm_trans h.perm (pm_mono (by omega) (by omega) (by omega) hs.perm), fun d' hd => h.rest d' fun x => ?_⟩
  rw [hd x]
  by_cases c1 : m + j - i ≤ x ∧ x < m + j
  · rw [if_neg (by omega), if_neg (by omega), hs.at', if_neg (by omega), if_pos (by omega), if_neg (by omega), if_pos (by omega)]
    congr 1; omega
  · by_cases c2 : m - i ≤ x ∧ x < m - i + (m + (j - i) - m)
    · rw [if_pos c2, hs.at', if_neg (by omega), if_neg (by omega), if_pos (by omega)]
    · rw [if_neg c2]
      by_cases c3 : m - i + (m + (j - i) - m) ≤ x ∧ x < m + (j - i)
      · rw [if_pos c3, hs.at']
        rw [if_pos (by omega)]
        by_cases c4 : x < m - i + (m + j - m)
        · rw [if_pos (by omega)]; congr 1; omega
        · omega
      · rw [if_neg c3, hs.at', if_neg (by omega), if_neg (by omega), if_neg (by omega), if_neg (by omega)]
theorem RotL.done {a m b i : Nat} {d dk dk' : Array α} (h : RotL a m b i i d dk) (hb : b ≤ d.size) (hs : Swr (m - i) m i dk dk') : Rot a m b d dk' := by
  have h1 := h.lo
  have h2 := h.hi
  have h3 := h.size
  refine ⟨pm_trans h.perm (pm_mono (by omega) (by omega) (by omega) hs.perm), h.rest _ fun x => ?_⟩
  rw [hs.at']
  by_cases c1 : m - i ≤ x ∧ x < m - i + i
  · rw [if_pos c1, if_pos (by omega)]; congr 1; omega
  · rw [if_neg c1, if_neg (show ¬ (m - i ≤ x ∧ x < m - i + (m + i - m)) by omega)]
    by_cases c2 : m ≤ x ∧ x < m + i
    · rw [if_pos c2, if_pos (by omega)]; congr 1; omega
    · rw [if_neg c2, if_neg (by omega)]
theorem Rot.none {a m b : Nat} (h1 : a ≤ m) (h2 : m ≤ b) (h : a = m ∨ m = b) (d : Array α) : Rot a m b d d :=
  ⟨pm_refl _ _ _, fun x => by
    rcases h with h | h
    · subst h
      by_cases c : a ≤ x ∧ x < a + (b - a)
      · rw [if_pos c]; congr 1; omega
      · rw [if_neg c, if_neg (by omega)]
    · subst h
      rw [if_neg (by omega)]
      by_cases c : a + (m - m) ≤ x ∧ x < m
      · rw [if_pos c]; congr 1; omega
      · rw [if_neg c]⟩

/-! One that is brought up, or down. -/
structure Up (a k : Nat) (d dk : Array α) : Prop where
  size : dk.size = d.size
  perm : PermIn a (k + 1) d dk
  at' : ∀ x, dk[x]! = if x = k then d[a]! else if a ≤ x ∧ x < k then d[x + 1]! else d[x]!
theorem Up.start (a : Nat) (d : Array α) : Up a a d d := ⟨rfl, pm_refl _ _ _, fun x => by
  by_cases c : x = a
  · subst c; rw [if_pos rfl]
  · rw [if_neg c, if_neg (by omega)]⟩
theorem Up.step {a k : Nat} {d dk : Array α} (h : Up a k d dk) (hak : a ≤ k) (hk : k + 1 < d.size) : Up a (k + 1) d (swp dk k (k + 1)) := by
  have hs := h.size
  refine ⟨by rw [Sort.size_swp, hs], pm_trans (pm_mono (Nat.le_refl _) (by omega) (by omega) h.perm) (pm_swp (by omega) (by omega) (by omega) (by omega) (by omega)), fun x => ?_⟩
  rw [swp_at dk (by omega) (by omega)]
  by_cases c1 : x = k
  · subst c1
    rw [if_pos rfl, if_neg (by omega), if_pos (by omega), h.at', if_neg (by omega), if_neg (by omega)]
  · rw [if_neg c1]
    by_cases c2 : x = k + 1
    · subst c2; rw [if_pos rfl, if_pos rfl, h.at', if_pos rfl]
    · rw [if_neg c2, if_neg c2, h.at', if_neg c1]
      by_cases c3 : a ≤ x ∧ x < k
      · rw [if_pos c3, if_pos (by omega)]
      · rw [if_neg c3, if_neg (by omega)]
/-- The first is put in its place. -/
theorem Up.sorted {a i b : Nat} {d dk : Array α} (O : SWO lt) (h : Up a (i - 1) d dk) (hai : a < i) (hib : i ≤ b) (hb : b ≤ d.size) (hs : SortedIn lt (a + 1) b d)
    (h1 : ∀ k, a < k → k < i → lt d[k]! d[a]! = true) (h2 : ∀ k, i ≤ k → k < b → lt d[k]! d[a]! = false) : PermIn a b d dk ∧ SortedIn lt a b dk := by
  refine ⟨pm_mono (Nat.le_refl _) (by omega) hb h.perm, fun x y hax hxy hyb => ?_⟩
  rw [h.at' x, h.at' y]
  by_cases c1 : y = i - 1
  · rw [if_pos c1, if_neg (by omega), if_pos (by omega)]
    have := h1 (x + 1) (by omega) (by omega)
    cases e : lt d[a]! d[x + 1]! with
    | false => rfl
    | true => have := O.trans _ _ _ e this; rw [O.irrefl] at this; cases this
  · rw [if_neg c1]
    by_cases c2 : x = i - 1
    · rw [if_pos c2, if_neg (by omega)]
      exact h2 y (by omega) hyb
    · rw [if_neg c2]
      by_cases c3 : a ≤ y ∧ y < i - 1
      · rw [if_pos c3, if_pos (by omega)]
        exact hs _ _ (by omega) (by omega) (by omega)
      · rw [if_neg c3]
        by_cases c4 : a ≤ x ∧ x < i - 1
        · rw [if_pos c4]
          exact hs _ _ (by omega) (by omega) hyb
        · rw [if_neg c4]
          exact hs _ _ (by omega) hxy hyb
structure Down (k m : Nat) (d dk : Array α) : Prop where
  size : dk.size = d.size
  perm : PermIn k (m + 1) d dk
  at' : ∀ x, dk[x]! = if x = k then d[m]! else if k < x ∧ x ≤ m then d[x - 1]! else d[x]!
theorem Down.start (m : Nat) (d : Array α) : Down m m d d := ⟨rfl, pm_refl _ _ _, fun x => by
  by_cases c : x = m
  · subst c; rw [if_pos rfl]
  · rw [if_neg c, if_neg (by omega)]⟩
theorem Down.step {k m : Nat} {d dk : Array α} (h : Down (k + 1) m d dk) (hkm : k + 1 ≤ m) (hm : m < d.size) : Down k m d (swp dk (k + 1) k) := by
  have hs := h.size
  refine ⟨by rw [Sort.size_swp, hs], pm_trans (pm_mono (by omega) (Nat.le_refl _) (by omega) h.perm) (pm_swp (by omega) (by omega) (by omega) (by omega) (by omega)), fun x => ?_⟩
  rw [swp_at dk (by omega) (by omega)]
  by_cases c1 : x = k + 1
  · subst c1
    rw [if_pos rfl, if_neg (by omega), if_pos (by omega), h.at', if_neg (by omega), if_neg (by omega)]
    congr 1
  · rw [if_neg c1]
    by_cases c2 : x = k
    · subst c2; rw [if_pos rfl, if_pos rfl, h.at', if_pos rfl]
    · rw [if_neg c2, if_neg c2, h.at', if_neg c1]
      by_cases c3 : k + 1 < x ∧ x ≤ m
      · rw [if_pos c3, if_pos (by omega)]
      · rw [if_neg c3, if_neg (by omega)]
/-- The last is put in its place. -/
theorem Down.sorted {a i m : Nat} {d dk : Array α} (O : SWO lt) (h : Down i m d dk) (hai : a ≤ i) (him : i ≤ m) (hm : m < d.size) (hs : SortedIn lt a m d)
    (h1 : ∀ k, a ≤ k → k < i → lt d[m]! d[k]! = false) (h2 : ∀ k, i ≤ k → k < m → lt d[m]! d[k]! = true) : PermIn a (m + 1) d dk ∧ SortedIn lt a (m + 1) dk := by
  refine ⟨pm_mono hai (Nat.le_refl _) (by omega) h.perm, fun x y hax hxy hyb => ?_⟩
  rw [h.at' x, h.at' y]
  by_cases c1 : x = i
  · rw [if_pos c1, if_neg (by omega), if_pos (by omega)]
    have := h2 (y - 1) (by omega) (by omega)
    cases e : lt d[y - 1]! d[m]! with
    | false => rfl
    | true => have := O.trans _ _ _ e this; rw [O.irrefl] at this; cases this
  · rw [if_neg c1]
    by_cases c2 : y = i
    · rw [if_pos c2, if_neg (by omega)]
      exact h1 x hax (by omega)
    · rw [if_neg c2]
      by_cases c3 : i < y ∧ y ≤ m
      · rw [if_pos c3]
        by_cases c4 : i < x ∧ x ≤ m
        · rw [if_pos c4]
          exact hs _ _ (by omega) (by omega) (by omega)
        · rw [if_neg c4]
          exact hs _ _ hax (by omega) (by omega)
      · rw [if_neg c3, if_neg (by omega)]
        exact hs _ _ hax hxy (by omega)

/-! A merge. -/
/-- What the search for the cut has found so far: c ahead of s are to stay, c from r on are to go. -/
structure Seek (lt : α → α → Bool) (lo hi p s r : Nat) (d : Array α) : Prop where
  h1 : lo ≤ s
  h2 : s ≤ r
  h3 : r ≤ hi
  stay : ∀ c, lo ≤ c → c < s → lt d[p - c]! d[c]! = false
  go : ∀ c, r ≤ c → c < hi → lt d[p - c]! d[c]! = true
theorem Seek.start {lo hi p : Nat} (h : lo ≤ hi) (d : Array α) : Seek lt lo hi p lo hi d := ⟨Nat.le_refl _, h, Nat.le_refl _, fun c h1 h2 => by omega, fun c h1 h2 => by omega⟩
/-- Where a, m, b are the ends of two sorted stretches, and lo and hi those of the search. -/
structure Ends (a m b lo hi p : Nat) : Prop where
  am : a < m
  mb : m < b
  p1 : p + 1 = (a + b) / 2 + m
  lo' : lo = if (a + b) / 2 < m then (a + b) / 2 + m - b else a
  hi' : hi = if (a + b) / 2 < m then (a + b) / 2 else m
theorem Ends.le {a m b lo hi p : Nat} (E : Ends a m b lo hi p) : a ≤ lo ∧ lo ≤ hi ∧ hi ≤ m ∧ hi ≤ (a + b) / 2 ∧ (a + b) / 2 + m ≤ lo + b := by
  have h1 := E.am
  have h2 := E.mb
  have h3 := E.p1
  have h4 := E.lo'
  have h5 := E.hi'
  split at h4
  · rw [if_pos ‹_›] at h5; omega
  · rw [if_neg ‹_›] at h5; omega
omit [Inhabited α] in
theorem SWO.asym' (O : SWO lt) {x y : α} (h : lt x y = true) : lt y x = false := by
  cases e : lt y x with
  | false => rfl
  | true => have := O.trans _ _ _ e h; rw [O.irrefl] at this; cases this
theorem sorted_le (O : SWO lt) {a b : Nat} {d : Array α} (h : SortedIn lt a b d) {i j : Nat} (h1 : a ≤ i) (h2 : i ≤ j) (h3 : j < b) : lt d[j]! d[i]! = false := by
  by_cases e : i = j
  · subst e; exact O.irrefl _
  · exact h i j h1 (by omega) h3
theorem Seek.up {a m b lo hi p s r c : Nat} {d : Array α} (O : SWO lt) (E : Ends a m b lo hi p) (h : Seek lt lo hi p s r d) (hc1 : s ≤ c) (hc2 : c < r) (hl : SortedIn lt a m d) (hr : SortedIn lt m b d) (hx : lt d[p - c]! d[c]! = false) : Seek lt lo hi p (c + 1) r d := by
  have e := E.le
  have e2 := E.p1
  have e3 := h.h1
  have e4 := h.h2
  have e5 := h.h3
  refine ⟨by omega, by omega, e5, fun k h1 h2 => ?_, h.go⟩
  have a1 : lt d[c]! d[k]! = false := sorted_le O hl (by omega) (by omega) (by omega)
  have a2 : lt d[p - k]! d[p - c]! = false := sorted_le O hr (by omega) (by omega) (by omega)
  exact O.ntrans _ _ _ a2 (O.ntrans _ _ _ hx a1)
theorem Seek.down {a m b lo hi p s r c : Nat} {d : Array α} (O : SWO lt) (E : Ends a m b lo hi p) (h : Seek lt lo hi p s r d) (hc1 : s ≤ c) (hc2 : c < r) (hl : SortedIn lt a m d) (hr : SortedIn lt m b d) (hx : lt d[p - c]! d[c]! = true) : Seek lt lo hi p s c d := by
  have e := E.le
  have e2 := E.p1
  have e3 := h.h1
  have e4 := h.h2
  have e5 := h.h3
  refine ⟨e3, hc1, by omega, h.stay, fun k h1 h2 => ?_⟩
  cases g : lt d[p - k]! d[k]! with
  | true => rfl
  | false =>
    have a1 : lt d[k]! d[c]! = false := sorted_le O hl (by omega) h1 (by omega)
    have a2 : lt d[p - c]! d[p - k]! = false := sorted_le O hr (by omega) (by omega) (by omega)
    have := O.ntrans _ _ _ a2 (O.ntrans _ _ _ g a1)
    rw [hx] at this; cases this
/-- Behind the rotation: four sorted stretches, those of the first half not above those of the second. -/
structure Quart (lt : α → α → Bool) (a s mid e b : Nat) (d : Array α) : Prop where
  q1 : SortedIn lt a s d
  q2 : SortedIn lt s mid d
  q3 : SortedIn lt mid e d
  q4 : SortedIn lt e b d
  cross : ∀ i j, a ≤ i → i < mid → mid ≤ j → j < b → lt d[j]! d[i]! = false
theorem Seek.quart {a m b lo hi p s : Nat} {d d' : Array α} (O : SWO lt) (E : Ends a m b lo hi p) (h : Seek lt lo hi p s s d) (hl : SortedIn lt a m d) (hr : SortedIn lt m b d) (R : Rot s m (p + 1 - s) d d') :
    Quart lt a s ((a + b) / 2) (p + 1 - s) b d' := by
  have e := E.le
  have e2 := E.p1
  have e3 := h.h1
  have e5 := h.h3
  have e6 := E.am
  have e7 := E.mb
  have hmid : s + (p + 1 - s - m) = (a + b) / 2 := by omega
  have at' := R.at'
  unfold RotV at at'
  rw [hmid] at at'
  generalize hM : (a + b) / 2 = M at *
  have r1 : ∀ x, x < s → d'[x]! = d[x]! := fun x hx => by rw [at', if_neg (by omega), if_neg (by omega)]
  have r2 : ∀ x, s ≤ x → x < M → d'[x]! = d[x + (m - s)]! := fun x h1 h2 => by rw [at', if_pos (by omega)]
  have r3 : ∀ x, M ≤ x → x < p + 1 - s → d'[x]! = d[x - (p + 1 - s - m)]! := fun x h1 h2 => by rw [at', if_neg (by omega), if_pos (by omega)]
  have r4 : ∀ x, p + 1 - s ≤ x → d'[x]! = d[x]! := fun x hx => by rw [at', if_neg (by omega), if_neg (by omega)]
  refine ⟨fun i j h1 h2 h3 => ?_, fun i j h1 h2 h3 => ?_, fun i j h1 h2 h3 => ?_, fun i j h1 h2 h3 => ?_, fun i j h1 h2 h3 h4 => ?_⟩
  · rw [r1 i (by omega), r1 j (by omega)]; exact hl _ _ h1 h2 (by omega)
  · rw [r2 i (by omega) (by omega), r2 j (by omega) (by omega)]; exact hr _ _ (by omega) (by omega) (by omega)
  · rw [r3 i (by omega) (by omega), r3 j (by omega) (by omega)]; exact hl _ _ (by omega) (by omega) (by omega)
  · rw [r4 i (by omega), r4 j (by omega)]; exact hr _ _ (by omega) h2 h3
  · by_cases c1 : i < s
    · rw [r1 i c1]
      by_cases c2 : j < p + 1 - s
      · rw [r3 j h3 c2]; exact hl _ _ h1 (by omega) (by omega)
      · rw [r4 j (by omega)]
        by_cases c3 : lo < s
        · have x1 := h.stay (s - 1) (by omega) (by omega)
          have x2 : lt d[s - 1]! d[i]! = false := sorted_le O hl h1 (by omega) (by omega)
          have x3 : lt d[j]! d[p - (s - 1)]! = false := sorted_le O hr (by omega) (by omega) h4
          exact O.ntrans _ _ _ x3 (O.ntrans _ _ _ x1 x2)
        · have h4' := E.lo'
          rw [hM] at h4'
          split at h4' <;> omega
    · rw [r2 i (by omega) h2]
      by_cases c2 : j < p + 1 - s
      · rw [r3 j h3 c2]
        by_cases c3 : s < hi
        · have x1 := SWO.asym' O (h.go s (Nat.le_refl _) c3)
          have x2 : lt d[p - s]! d[i + (m - s)]! = false := sorted_le O hr (by omega) (by omega) (by omega)
          have x3 : lt d[j - (p + 1 - s - m)]! d[s]! = false := sorted_le O hl (by omega) (by omega) (by omega)
          exact O.ntrans _ _ _ x3 (O.ntrans _ _ _ x1 x2)
        · have h4' := E.hi'
          rw [hM] at h4'
          split at h4' <;> omega
      · rw [r4 j (by omega)]; exact hr _ _ (by omega) (by omega) h4
theorem pm_same {d d' : Array α} {a b : Nat} (h : PermIn a b d d') {x : Nat} (hx : x < a ∨ b ≤ x) : d'[x]! = d[x]! := h.2.1 x hx
theorem sorted_out {d d' : Array α} {a b x y : Nat} (h : PermIn a b d d') (hs : SortedIn lt x y d) (ho : y ≤ a ∨ b ≤ x) : SortedIn lt x y d' := fun i j h1 h2 h3 => by
  rw [pm_same h (show i < a ∨ b ≤ i by omega), pm_same h (show j < a ∨ b ≤ j by omega)]; exact hs i j h1 h2 h3
/-- The first half is merged. -/
theorem Quart.left {a s mid e b : Nat} {d d' : Array α} (h : Quart lt a s mid e b d) (h2 : mid ≤ e) (hb : b ≤ d.size) (hm : mid ≤ b) (hp : PermIn a mid d d') : Quart lt mid mid mid e b d' ∧ ∀ i j, a ≤ i → i < mid → mid ≤ j → j < b → lt d'[j]! d'[i]! = false :=
  ⟨⟨fun i j h1 h2 h3 => by omega, fun i j h1 h2 h3 => by omega, sorted_out hp h.q3 (.inr (Nat.le_refl _)), sorted_out hp h.q4 (.inr h2), fun i j h1 h2 h3 h4 => by omega⟩,
   fun i j h1 h2 h3 h4 => by
    rw [pm_same hp (.inr h3)]
    exact pm_all (p := fun x => lt d[j]! x = false) (by omega) hp (fun k h5 h6 => h.cross k j h5 h6 h3 h4) i h1 h2⟩
/-- Both are. -/
theorem merged {a mid b : Nat} {d d' : Array α} (h1 : SortedIn lt a mid d) (hc : ∀ i j, a ≤ i → i < mid → mid ≤ j → j < b → lt d[j]! d[i]! = false) (hb : b ≤ d.size) (hp : PermIn mid b d d') (h2 : SortedIn lt mid b d') : SortedIn lt a b d' := fun i j hai hij hjb => by
  by_cases c1 : mid ≤ i
  · exact h2 i j c1 hij hjb
  · have ei : d'[i]! = d[i]! := pm_same hp (.inl (by omega))
    rw [ei]
    by_cases c2 : mid ≤ j
    · exact pm_all (p := fun x => lt x d[i]! = false) hb hp (fun k h5 h6 => hc i k hai (by omega) h5 h6) j c2 hjb
    · have ej : d'[j]! = d[j]! := pm_same hp (.inl (by omega))
      rw [ej]
      exact h1 i j hai hij (by omega)
theorem sorted_join {a s mid : Nat} {d : Array α} (h : s = a ∨ s = mid) (h1 : SortedIn lt a s d) (h2 : SortedIn lt s mid d) : SortedIn lt a mid d := by
  rcases h with rfl | rfl
  · exact h2
  · exact h1

/-! Stretches of one length. -/
/-- Those that end at or ahead of c are sorted by bs each. -/
def Blks (lt : α → α → Bool) (bs n c : Nat) (d : Array α) : Prop := ∀ q, q * bs < c → SortedIn lt (q * bs) (min ((q + 1) * bs) n) d
theorem Blks.start (bs n : Nat) (d : Array α) : Blks lt bs n 0 d := fun q h => by omega
theorem blk_lt {q Q bs : Nat} (h : q * bs < Q * bs) : (q + 1) * bs ≤ Q * bs := Nat.mul_le_mul_right _ (by
  rcases Nat.lt_or_ge q Q with h1 | h1
  · exact h1
  · have := Nat.mul_le_mul_right bs h1; omega)
theorem Blks.step {bs n Q : Nat} {d d' : Array α} (h : Blks lt bs n (Q * bs) d) (hp : PermIn (Q * bs) (min ((Q + 1) * bs) n) d d') (hs : SortedIn lt (Q * bs) (min ((Q + 1) * bs) n) d') : Blks lt bs n ((Q + 1) * bs) d' := fun q hq => by
  by_cases e : q = Q
  · subst e; exact hs
  · have h1 : q * bs < Q * bs := by
      have := blk_lt hq
      rcases Nat.lt_or_ge q Q with h1 | h1
      · have h2 : (q + 1) * bs ≤ Q * bs := Nat.mul_le_mul_right _ h1
        have : 0 < bs := by
          rcases Nat.eq_zero_or_pos bs with e0 | e0
          · subst e0; simp at hq
          · exact e0
        rw [Nat.succ_mul] at h2; omega
      · have h2 : Q + 1 ≤ q := by omega
        have h3 : (Q + 1) * bs ≤ q * bs := Nat.mul_le_mul_right _ h2
        omega
    exact sorted_out hp (h q h1) (.inl (by have := blk_lt h1; omega))
/-- All of them, seen as the two halves of stretches twice as long. -/
theorem Blks.half {bs n : Nat} {d : Array α} (h : Blks lt bs n n d) (q : Nat) (hq : q * (2 * bs) < n) : SortedIn lt (q * (2 * bs)) (min (q * (2 * bs) + bs) n) d ∧ (q * (2 * bs) + bs < n → SortedIn lt (q * (2 * bs) + bs) (min ((q + 1) * (2 * bs)) n) d) := by
  have e1 : q * (2 * bs) = (2 * q) * bs := by rw [Nat.mul_comm 2 q, Nat.mul_assoc]
  have e2 : q * (2 * bs) + bs = (2 * q + 1) * bs := by rw [Nat.add_mul (2 * q) 1 bs, Nat.one_mul, e1]
  have e3 : (q + 1) * (2 * bs) = (2 * q + 1 + 1) * bs := by rw [show 2 * q + 1 + 1 = (q + 1) * 2 by omega, Nat.mul_assoc]
  refine ⟨?_, fun h2 => ?_⟩
  · have := h (2 * q) (by rw [← e1]; exact hq)
    rw [e2, e1]; exact this
  · have := h (2 * q + 1) (by rw [← e2]; exact h2)
    rw [e2, e3]; exact this
end Go.Proofs.Ytiglmoggpjgmbaa
