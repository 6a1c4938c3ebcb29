/-
  A byte of a source is changed: what stays.
-/
import Derived.Test.YtcopjbapglndgaaGreatDoorMr26
import Derived.Test.YtcopjbapglndgaaGreatDoorVoXM
namespace Go.Proofs.YtcopjbapglndgaaGreatDoor
open Go.ChangeShapes Go.WideShapes Go.ChangeAt Go.RowKit Go.Joins
set_option linter.unusedVariables false

theorem cell_far {w : World} {a q : Addr} {x u y : Value} (hc : w.cell? a = some y) (hq : w.cell? q = some u) (hne : u ≠ y) : (w.setCell a x).cell? q = some u := by
  have e : a ≠ q := fun e => by subst e; rw [hq] at hc; exact hne (Option.some.inj hc)
  exact (World.cell?_setCell_other _ _ _ _ e).trans hq
theorem Mx.poke {w : World} {a : Addr} {c : Int} (h : Mx w) (hc : w.cell? a = some (.int .u8 c)) (x : Value) : Mx (w.setCell a x) := by
  obtain ⟨m, hm⟩ := h.max
  exact ⟨⟨m, cell_far hc hm (by simp)⟩⟩
theorem Fours.poke {w : World} {a : Addr} {c : Int} (h : Fours w) (hc : w.cell? a = some (.int .u8 c)) (x : Value) : Fours (w.setCell a x) := fun k hk => cell_far hc (h k hk) (by simp)
theorem Tabs.poke {w : World} {b off : Nat} {c : Int} (h : Tabs w) (hc : w.cell? ⟨b, off, none⟩ = some (.int .u8 c)) (x : Value) : Tabs (w.setCell ⟨b, off, none⟩ x) := by
  refine ⟨fun k hk => cell_far hc (h.1 k hk) (by simp), ?_⟩
  obtain ⟨t, fr, e⟩ := h.2
  refine ⟨t, fr, (Below.heap_setCell _ _ _ _ fun e' => ?_).trans e⟩
  have e2 : b = _ := e'.symm
  subst e2
  rw [World.cell?, e] at hc
  simp only [Sha.rowArr] at hc
  by_cases ho : off < 8
  · simp [ho, Sha.stV] at hc
  · simp [ho] at hc
theorem Fils.poke {w : World} {b off : Nat} {x : Value} {fa : Option Addr} {fc : Nat} {l : List Fil} (h : Fils w fa fc l) (hk : ∀ ad, fa = some ad → ad.block ≠ b) : Fils (w.setCell ⟨b, off, none⟩ x) fa fc l :=
  ⟨h.rng, h.len, h.most, by
    rcases h.here with e | ⟨b', o', e, hb, hc⟩
    · exact .inl e
    · have hne : b' ≠ b := hk _ e
      refine .inr ⟨b', o', e, Nat.lt_of_lt_of_le hb ((Below.refl 0 w).setCell (Nat.zero_le _) _).size, fun i hi j hj => ?_⟩
      rw [World.cell?_of_block (w := w) (a := ⟨b', o' + i * 35 + j, none⟩) (Below.heap_setCell _ _ _ _ hne)]
      exact hc i hi j hj⟩
theorem Sms.poke {w : World} {b off : Nat} {x : Value} {fa : Option Addr} {fc : Nat} {l : List Sm} (h : Sms w fa fc l) (hk : ∀ ad, fa = some ad → ad.block ≠ b) : Sms (w.setCell ⟨b, off, none⟩ x) fa fc l :=
  ⟨h.rng, h.len, h.most, by
    rcases h.here with e | ⟨b', o', e, hb, hc⟩
    · exact .inl e
    · have hne : b' ≠ b := hk _ e
      have hx : ∀ m, (w.setCell ⟨b, off, none⟩ x).cell? ⟨b', m, none⟩ = w.cell? ⟨b', m, none⟩ := fun m => World.cell?_of_block (w := w) (a := ⟨b', m, none⟩) (Below.heap_setCell _ _ _ _ hne)
      refine .inr ⟨b', o', e, Nat.lt_of_lt_of_le hb ((Below.refl 0 w).setCell (Nat.zero_le _) _).size, fun i hi => ?_⟩
      obtain ⟨h0, h1, h2⟩ := hc i hi
      exact ⟨(hx _).trans h0, (hx _).trans h1, fun j hj => (hx _).trans (h2 j hj)⟩⟩
theorem sl_poke {w : World} {b off y x : Nat} {p : Option Addr} {q : Nat} {l : List Nat} (hc : w.cell? ⟨b, off, none⟩ = some (.int .u8 (y : Int))) (hx : x < 256) (h : Sl w p q l) :
    ∃ l', l'.length = l.length ∧ Sl (w.setCell ⟨b, off, none⟩ (.int .u8 (x : Int))) p q l' ∧ (p = some ⟨b, off, none⟩ → ∀ c t, l = c :: t → l' = x :: t) := by
  rcases h.here with rfl | ⟨b', o', rfl, hb⟩
  · exact ⟨[], rfl, ⟨h.byte, h.len, h.most, h.none, .inl rfl⟩, fun _ c t e => (by cases e)⟩
  · let f : Nat → Nat := fun j => if b' = b ∧ o' + j = off then x else l.getD j 0
    have hf : ∀ j (hj : j < l.length), f j = if b' = b ∧ o' + j = off then x else l[j] := fun j hj => by show (if _ then _ else _) = _; simp [List.getD, hj]
    refine ⟨(List.range l.length).map f, by simp, ⟨fun z hz => ?_, by simpa using h.len, h.most, fun e => (by cases e), .inr ⟨b', o', rfl, fun i hi => ?_⟩⟩, fun e c t hl => ?_⟩
    · obtain ⟨j, hj, rfl⟩ := List.mem_map.1 hz
      have hj2 : j < l.length := by simpa using hj
      rw [hf j hj2]
      split
      · exact hx
      · exact h.byte _ (List.getElem_mem hj2)
    · have hi2 : i < l.length := by simpa using hi
      have e1 : ((List.range l.length).map f)[i] = f i := by simp
      rw [e1, hf i hi2]
      by_cases e : b' = b ∧ o' + i = off
      · obtain ⟨rfl, rfl⟩ := e
        rw [if_pos ⟨rfl, rfl⟩]
        exact World.cell?_setCell_same _ _ _ hc
      · rw [if_neg e]
        refine (World.cell?_setCell_other _ _ _ _ fun e2 => e ?_).trans (hb i hi2)
        cases e2
        exact ⟨rfl, rfl⟩
    · cases e
      subst hl
      apply List.ext_getElem?
      intro j
      by_cases hj : j < (c :: t).length
      · have e1 : ((List.range (c :: t).length).map f)[j]? = some (f j) := by rw [List.getElem?_map, List.getElem?_range (by simpa using hj)]; rfl
        rw [e1, hf j hj]
        cases j with
        | zero => simp
        | succ j =>
          rw [if_neg (fun h => by omega)]
          simp only [List.getElem_cons_succ, List.getElem?_cons_succ]
          rw [List.getElem?_eq_getElem]
      · rw [List.getElem?_eq_none (by simpa using hj), List.getElem?_eq_none (by simpa using hj)]
theorem src_poke {w : World} {ra : Option Addr} {rc : Nat} {R : List (List Nat)} (h : SrcAt w ra rc R) {g b off y x k : Nat} (hg : ra = some ⟨g, 0, none⟩) (hgb : g ≠ b) (hc : w.cell? ⟨b, off, none⟩ = some (.int .u8 (y : Int))) (hx : x < 256) (hk : k < R.length) {n q : Nat} (hck : w.cell? ⟨g, k, none⟩ = some (.slice (some ⟨b, off, none⟩) n q)) :
    ∃ R' : List (List Nat), R'.length = R.length ∧ (∀ i (h : i < R.length) (h' : i < R'.length), R'[i].length = R[i].length) ∧ SrcAt (w.setCell ⟨b, off, none⟩ (.int .u8 (x : Int))) ra rc R' ∧ (∀ (h' : k < R'.length) c t, R[k] = c :: t → R'[k] = x :: t) := by
  subst hg
  have hgl : g < w.heap.size := lt_cell hck
  have hx' : ∀ m, (w.setCell ⟨b, off, none⟩ (.int .u8 (x : Int))).cell? ⟨g, m, none⟩ = w.cell? ⟨g, m, none⟩ := fun m => World.cell?_of_block (w := w) (a := ⟨g, m, none⟩) (Below.heap_setCell _ _ _ _ hgb)
  have H : ∀ i, ∃ l' : List Nat, ∀ hi : i < R.length, l'.length = R[i].length ∧ (∃ p q, w.cell? ⟨g, i, none⟩ = some (.slice p l'.length q) ∧ Sl (w.setCell ⟨b, off, none⟩ (.int .u8 (x : Int))) p q l') ∧ (i = k → ∀ c t, R[i] = c :: t → l' = x :: t) := fun i => by
    by_cases hi : i < R.length
    · rcases h.here with e | ⟨g', e, _, hall⟩
      · rw [e] at hi; simp at hi
      · cases e
        obtain ⟨p, q', h1, h2⟩ := hall i hi
        obtain ⟨l', h3, h4, h5⟩ := sl_poke hc hx h2
        refine ⟨l', fun _ => ⟨h3, ⟨p, q', by rw [h3]; exact h1, h4⟩, fun e c t hct => ?_⟩⟩
        subst e
        rw [hck] at h1
        cases h1
        exact h5 rfl c t hct
    · exact ⟨[], fun hi' => absurd hi' hi⟩
  have hs := fun i => Classical.choose_spec (H i)
  generalize hf : (fun i => Classical.choose (H i)) = f at *
  have hs : ∀ i, ∀ hi : i < R.length, (f i).length = R[i].length ∧ (∃ p q, w.cell? ⟨g, i, none⟩ = some (.slice p (f i).length q) ∧ Sl (w.setCell ⟨b, off, none⟩ (.int .u8 (x : Int))) p q (f i)) ∧ (i = k → ∀ c t, R[i] = c :: t → f i = x :: t) := fun i => by
    rw [← hf]; exact Classical.choose_spec (H i)
  have he : ∀ i (h' : i < ((List.range R.length).map f).length), ((List.range R.length).map f)[i] = f i := fun i h' => by simp
  refine ⟨(List.range R.length).map f, by simp, fun i hi h' => by rw [he]; exact (hs i hi).1, ⟨by simpa using h.len, h.most, .inr ⟨g, rfl, Nat.lt_of_lt_of_le hgl ((Below.refl 0 w).setCell (Nat.zero_le _) _).size, fun i hi => ?_⟩⟩, fun h' c t e => by rw [he]; exact (hs k hk).2.2 rfl c t e⟩
  have hi2 : i < R.length := by simpa using hi
  rw [he]
  obtain ⟨p, q', h1, h2⟩ := (hs i hi2).2.1
  exact ⟨p, q', (hx' i).trans h1, h2⟩
/-- All but the first row. -/
theorem rs_tail17 {B : Nat} {w : World} {g : Nat} {c : Nat} {R : Rws} (h : Rs B w (some ⟨g, 0, none⟩) c R) (h1 : 1 ≤ R.length) {a2 : Option Addr} (ha : R.length = 1 ∨ a2 = some ⟨g, 1, none⟩) (hn : a2 = none → R.length = 1) : Rs B w a2 (c - 1) (R.drop 1) := by
  have hl := h.len
  have hm := h.most
  refine ⟨by rw [List.length_drop]; omega, by omega, fun e => List.drop_eq_nil_of_le (by have := hn e; omega), ?_⟩
  rcases ha with ha | ha
  · exact .inl (List.drop_eq_nil_of_le (by omega))
  · rcases h.here with e | ⟨b, off, e, hb, hr⟩
    · rw [e] at h1; simp at h1
    · cases e
      refine .inr ⟨g, 1, ha, hb, fun i hi => ?_⟩
      rw [List.length_drop] at hi
      obtain ⟨a, cc, h2, h3⟩ := hr (i + 1) (by omega)
      have e3 : (R.drop 1)[i]'(by rw [List.length_drop]; omega) = R[i + 1]'(by omega) := by rw [List.getElem_drop]; congr 1; omega
      rw [show 0 + (i + 1) = 1 + i by omega] at h2
      rw [e3]
      exact ⟨a, cc, h2, h3⟩
end Go.Proofs.YtcopjbapglndgaaGreatDoor
