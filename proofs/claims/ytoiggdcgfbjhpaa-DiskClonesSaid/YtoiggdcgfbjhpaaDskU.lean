/-
  A disk as plain data: its tables by what each name means, its changes that wait, its files by number; what stays true of it.
-/
import Derived.Test.YtoiggdcgfbjhpaaDskT
import Derived.Maps.Ext
namespace Go.Proofs.Ytoiggdcgfbjhpaa
open Go.ChangeShapes Go.WideShapes Go.ChangeAt Go.RowKit Go.Joins
set_option linter.unusedVariables false

theorem keyD_inj {s t : ByteArray} (h : keyD s = keyD t) : s = t := by
  unfold keyD at h
  injection h with h
  obtain ⟨a⟩ := s
  obtain ⟨b⟩ := t
  simp only at h
  have : a = b := by
    cases a; cases b; simpa using h
  rw [this]
theorem keyD_lit (s : ByteArray) : WideAt.IsKeyLit (keyD s) := trivial
/-- The name means the file i. -/
def At (D : DM) (s : ByteArray) (i : Nat) : Prop := ∀ z, D.atKey (keyD s) z = idD (i : Int)
theorem At.has {D : DM} {s : ByteArray} {i : Nat} (h : At D s i) : Maps.has D (keyD s) = true := Maps.has_true_of_atKey h
theorem At.one {D : DM} {s : ByteArray} {i j : Nat} (h : At D s i) (k : At D s j) : i = j := by
  have := (h .nil).symm.trans (k .nil)
  have := idD_inj this
  omega
theorem At.num {D : DM} {s : ByteArray} {i : Nat} (h : At D s i) : numD D s = (i : Int) := by
  unfold numD
  rw [h]
  rfl
/-- Each name means a file, no two the same. -/
structure OkD (D : DM) : Prop where
  isMap : Maps.IsMap D
  all : ∀ s, Maps.has D (keyD s) = true → ∃ i, At D s i
  one : ∀ s t i, At D s i → At D t i → s = t
theorem OkD.empty : OkD (.map []) := ⟨Maps.isMap_empty, fun s h => (by cases h), fun s t i h _ => (by have := At.has h; cases this)⟩
theorem OkD.of_num {D : DM} (h : OkD D) {s : ByteArray} {i : Nat} (hn : numD D s = (i : Int)) : At D s i := by
  cases hh : Maps.has D (keyD s) with
  | true =>
    obtain ⟨j, hj⟩ := h.all s hh
    have := hj.num
    rw [hn] at this
    obtain rfl : i = j := by omega
    exact hj
  | false =>
    unfold numD at hn
    rw [Maps.atKey_of_not_has hh] at hn
    have hn : (-1 : Int) = i := hn
    omega
theorem OkD.none_num {D : DM} (h : OkD D) {s : ByteArray} : numD D s = -1 ↔ Maps.has D (keyD s) = false := by
  cases hh : Maps.has D (keyD s) with
  | true =>
    obtain ⟨j, hj⟩ := h.all s hh
    rw [hj.num]
    constructor
    · intro e; omega
    · intro e; cases e
  | false =>
    unfold numD
    rw [Maps.atKey_of_not_has hh]
    exact ⟨fun _ => rfl, fun _ => rfl⟩
theorem OkD.num_or {D : DM} (h : OkD D) (s : ByteArray) : numD D s = -1 ∨ ∃ i : Nat, numD D s = (i : Int) ∧ At D s i := by
  cases hh : Maps.has D (keyD s) with
  | true =>
    obtain ⟨j, hj⟩ := h.all s hh
    exact .inr ⟨j, hj.num, hj⟩
  | false => exact .inl (h.none_num.2 hh)

theorem key_ne {s t : ByteArray} (h : s ≠ t) : keyD s ≠ keyD t := fun e => h (keyD_inj e)
theorem OkD.del {D : DM} (h : OkD D) (s : ByteArray) : OkD (D.del (keyD s)) := by
  have hat : ∀ t i, At (D.del (keyD s)) t i → At D t i := fun t i ht => by
    have hne : t ≠ s := fun e => by
      subst e
      have := ht.has
      rw [Maps.has_del_same] at this
      cases this
    exact fun z => by rw [← ht z, Maps.atKey_del_other (key_ne hne)]
  refine ⟨h.isMap.del _, fun t ht => ?_, fun t u i h1 h2 => h.one t u i (hat t i h1) (hat u i h2)⟩
  have hne : t ≠ s := fun e => by
    subst e
    rw [Maps.has_del_same] at ht
    cases ht
  rw [Maps.has_del_other (key_ne hne)] at ht
  obtain ⟨i, hi⟩ := h.all t ht
  exact ⟨i, fun z => by rw [Maps.atKey_del_other (key_ne hne)]; exact hi z⟩
theorem del_at {D : DM} {s t : ByteArray} {i : Nat} : At (D.del (keyD s)) t i ↔ t ≠ s ∧ At D t i := by
  constructor
  · intro ht
    have hne : t ≠ s := fun e => by
      subst e
      have := ht.has
      rw [Maps.has_del_same] at this
      cases this
    exact ⟨hne, fun z => by rw [← ht z, Maps.atKey_del_other (key_ne hne)]⟩
  · rintro ⟨hne, ht⟩
    exact fun z => by rw [Maps.atKey_del_other (key_ne hne)]; exact ht z
theorem put_at {D : DM} (h : Maps.IsMap D) {s t : ByteArray} {i j : Nat} : At (D.put (keyD s) (idD (i : Int))) t j ↔ (t = s ∧ j = i) ∨ (t ≠ s ∧ At D t j) := by
  by_cases e : t = s
  · subst e
    constructor
    · intro ht
      have := ht .nil
      rw [Maps.atKey_put_same h (keyD_lit t)] at this
      have := idD_inj this
      exact .inl ⟨rfl, by omega⟩
    · rintro (⟨_, rfl⟩ | ⟨h1, _⟩)
      · exact fun z => Maps.atKey_put_same h (keyD_lit t) _ z
      · exact absurd rfl h1
  · constructor
    · intro ht
      exact .inr ⟨e, fun z => by rw [← ht z, Maps.atKey_put_other (key_ne e)]⟩
    · rintro (⟨h1, _⟩ | ⟨_, ht⟩)
      · exact absurd h1 e
      · exact fun z => by rw [Maps.atKey_put_other (key_ne e)]; exact ht z
/-- A table with a name more, or with another file for it. -/
theorem OkD.put {D : DM} (h : OkD D) (s : ByteArray) (i : Nat) (hn : ∀ t, t ≠ s → ¬ At D t i) : OkD (D.put (keyD s) (idD (i : Int))) := by
  refine ⟨h.isMap.put _ _, fun t ht => ?_, fun t u j h1 h2 => ?_⟩
  · by_cases e : t = s
    · subst e
      exact ⟨i, fun z => Maps.atKey_put_same h.isMap (keyD_lit t) _ z⟩
    · rw [Maps.has_put_other (key_ne e)] at ht
      obtain ⟨j, hj⟩ := h.all t ht
      exact ⟨j, (put_at h.isMap).2 (.inr ⟨e, hj⟩)⟩
  · rcases (put_at h.isMap).1 h1 with ⟨rfl, rfl⟩ | ⟨e1, a1⟩ <;> rcases (put_at h.isMap).1 h2 with ⟨rfl, e3⟩ | ⟨e2, a2⟩
    · rfl
    · exact absurd a2 (hn u e2)
    · subst e3; exact absurd a1 (hn t e1)
    · exact h.one t u j a1 a2

/-- Changes that follow one another from a table on. -/
inductive Chain : DM → List Chg → Prop
  | nil {D : DM} (h : OkD D) : Chain D []
  | cons {D : DM} {c : Chg} {l : List Chg} (h : OkD D) (hs : c.made = -1 → ∃ i, At D c.src i) (hm : c.made = -1 ∨ ∃ i : Nat, c.made = i ∧ ∀ t, ¬ At D t i) (hr : Chain (c.did D) l) : Chain D (c :: l)
theorem Chain.ok {D : DM} {l : List Chg} (h : Chain D l) : OkD D := by cases h <;> assumption
def didAll (D : DM) (l : List Chg) : DM := l.foldl (fun D c => c.did D) D
theorem didTo_all (l : List (Value × Chg)) (D : DM) (k : Nat) : didTo l D k = didAll D ((l.map Prod.snd).take k) := by
  unfold didTo didAll
  rw [← List.map_take, List.foldl_map]
theorem atKey_of_at {D : DM} {s : ByteArray} {i : Nat} (h : At D s i) : D.atKey (keyD s) (idD (-1)) = idD (i : Int) := h _
/-- What a change does, by names. -/
theorem did_at {D : DM} {c : Chg} (h : OkD D) (hs : c.made = -1 → ∃ i, At D c.src i) (hm : c.made = -1 ∨ ∃ i : Nat, c.made = i ∧ ∀ t, ¬ At D t i) : OkD (c.did D) ∧ ∀ t j, At (c.did D) t j → (∃ u, At D u j) ∨ c.made = (j : Int) := by
  obtain ⟨made, src, dst⟩ := c
  simp only at hs hm
  by_cases h1 : made = -1
  · subst h1
    obtain ⟨i, hi⟩ := hs rfl
    by_cases h2 : dst.size = 0
    · have e : Chg.did ⟨-1, src, dst⟩ D = D.del (keyD src) := by simp [Chg.did, h2]
      rw [e]
      exact ⟨h.del _, fun t j ht => .inl ⟨t, (del_at.1 ht).2⟩⟩
    · have e : Chg.did ⟨-1, src, dst⟩ D = (D.del (keyD src)).put (keyD dst) (idD (i : Int)) := by simp [Chg.did, h2, atKey_of_at hi]
      rw [e]
      refine ⟨(h.del src).put dst i fun t ht hat => ?_, fun t j ht => ?_⟩
      · obtain ⟨h3, h4⟩ := del_at.1 hat
        exact h3 (h.one t src i h4 hi)
      · rcases (put_at (h.del src).isMap).1 ht with ⟨rfl, rfl⟩ | ⟨h3, h4⟩
        · exact .inl ⟨src, hi⟩
        · exact .inl ⟨t, (del_at.1 h4).2⟩
  · obtain ⟨i, rfl, hi⟩ := hm.resolve_left h1
    by_cases h2 : dst.size = 0
    · have e : Chg.did ⟨(i : Int), src, dst⟩ D = D := by simp [Chg.did, h2, h1]
      rw [e]
      exact ⟨h, fun t j ht => .inl ⟨t, ht⟩⟩
    · have e : Chg.did ⟨(i : Int), src, dst⟩ D = D.put (keyD dst) (idD (i : Int)) := by simp [Chg.did, h2, h1]
      rw [e]
      refine ⟨h.put dst i fun t _ hat => hi t hat, fun t j ht => ?_⟩
      rcases (put_at h.isMap).1 ht with ⟨rfl, rfl⟩ | ⟨h3, h4⟩
      · exact .inr rfl
      · exact .inl ⟨t, h4⟩
theorem Chain.snoc {D : DM} {l : List Chg} {c : Chg} (h : Chain D l) (hs : c.made = -1 → ∃ i, At (didAll D l) c.src i) (hm : c.made = -1 ∨ ∃ i : Nat, c.made = i ∧ ∀ t, ¬ At (didAll D l) t i) : Chain D (l ++ [c]) := by
  induction h with
  | nil h => exact .cons h hs hm (.nil (did_at h hs hm).1)
  | cons h h1 h2 hr ih => exact .cons h h1 h2 (ih hs hm)
theorem Chain.take {D : DM} {l : List Chg} (h : Chain D l) : ∀ k, OkD (didAll D (l.take k)) := by
  induction h with
  | nil h => intro k; simpa [didAll] using h
  | cons h h1 h2 hr ih =>
    intro k
    cases k with
    | zero => simpa [didAll] using h
    | succ k => exact ih k
theorem Chain.end {D : DM} {l : List Chg} (h : Chain D l) : OkD (didAll D l) := by
  have := h.take l.length
  rwa [List.take_length] at this
theorem Chain.from {D : DM} {l : List Chg} (h : Chain D l) : ∀ k t j, At (didAll D (l.take k)) t j → (∃ u, At D u j) ∨ ∃ c ∈ l, c.made = (j : Int) := by
  induction h with
  | nil h => intro k t j ht; exact .inl ⟨t, by simpa [didAll] using ht⟩
  | cons h h1 h2 hr ih =>
    intro k t j ht
    cases k with
    | zero => exact .inl ⟨t, ht⟩
    | succ k =>
      rcases ih k t j ht with ⟨u, hu⟩ | ⟨c, hc, e⟩
      · rcases (did_at h h1 h2).2 u j hu with h3 | h3
        · exact .inl h3
        · exact .inr ⟨_, List.mem_cons_self, h3⟩
      · exact .inr ⟨c, List.mem_cons_of_mem _ hc, e⟩

/-- A disk as plain data. -/
structure St where
  d : Dk
  Ds : DM
  l : List Chg
  F : Nat → Fl
  next : Nat
  steps : Nat
  tot : Nat
def St.Dn (S : St) : DM := didAll S.Ds S.l
/-- What stays true of it. -/
structure Inv (S : St) : Prop where
  ch : Chain S.Ds S.l
  num : ∀ t i, At S.Ds t i → i < S.next
  made : ∀ c ∈ S.l, c.made = -1 ∨ ∃ i : Nat, c.made = i ∧ i < S.next
  apart : ∀ c ∈ S.l, ∀ i : Nat, c.made = i → ∀ t, ¬ At S.Ds t i
  each : S.l.Pairwise fun a b => a.made = -1 ∨ a.made ≠ b.made
  len : S.l.length ≤ S.steps
  bytes : ∀ i, (S.F i).bytes.length ≤ S.tot
  safe : ∀ i, (S.F i).safe ≤ (S.F i).bytes.length
  byte : ∀ i, ∀ n ∈ (S.F i).bytes, n < 256
theorem Inv.okn {S : St} (h : Inv S) : OkD S.Dn := h.ch.end
theorem Inv.oks {S : St} (h : Inv S) : OkD S.Ds := h.ch.ok
theorem Inv.numn {S : St} (h : Inv S) {t : ByteArray} {i : Nat} (ht : At S.Dn t i) : i < S.next := by
  have := h.ch.from S.l.length t i
  rw [List.take_length] at this
  rcases this ht with ⟨u, hu⟩ | ⟨c, hc, e⟩
  · exact h.num u i hu
  · rcases h.made c hc with h1 | ⟨j, h1, h2⟩
    · omega
    · omega
end Go.Proofs.Ytoiggdcgfbjhpaa
