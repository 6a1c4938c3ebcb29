/-
  Slices of slices of bytes that are made side by side; the first bytes of a slice.
-/
import Derived.Test.YtgfcpneblkleiaaPush
import Derived.Laws.AppendOwn
import Derived.OwnWalk
import Derived.Maps.AppendAt
namespace Go.Proofs.Ytgfcpneblkleiaa
open Go.ChangeShapes Go.WideShapes Go.ChangeAt Go.RowKit Go.Joins
set_option linter.unusedVariables false

theorem Own.row {B : Nat} {w : World} {v : Value} {ls : Rws} (h : Own B w v ls) : ∃ xs, w.ownsRow B 30 1 v ls.length xs := by
  obtain ⟨xs, ho, _⟩ := h
  exact ⟨xs, ho⟩

/-- A slice of slices that is made, and one that another may be: pushed to, with where the new one lies. -/
theorem wpList_push_rows3 {ops : Array Oper} {rest : List Oper} {o : Oper} {a : Act} {Q : Exit → Act → World → Prop} (w : World) (hgd : o.guard = none) (s x : Operand)
    (ho : o.op = .call { callee := .builtin .append, args := #[s, x], argTypes := #[22, 22] })
    (B : Nat) (v : Value) (ls : Rws) (hs : a.eval s = v) (hown : Own B w v ls) (g : Nat) (hx : a.eval x = .slice (some ⟨g, 0, none⟩) 1 1)
    (aa : Option Addr) (c : Nat) (l : List Nat) (hcell : w.cell? ⟨g, 0, none⟩ = some (.slice aa l.length c)) (hrw : Rw B w aa c l) (hB : B ≤ w.heap.size) (hlen : ls.length ≤ 100000)
    (h : ∀ v' w', Hid (Own B w' v' (ls ++ [l])) → Hid (Keep B w w' ∧ w.grownBy w' v.ownBlock ∧ (v'.ownBlock = v.ownBlock ∨ v'.ownBlock = some w.heap.size)) → wpList Try.prog ops Q rest (a.put o.dst v') w') : wpList Try.prog ops Q (o :: rest) a w := by
  obtain ⟨i0, hi, hz0, hz1, hz2⟩ := info_parts infoR
  obtain ⟨xs, ho1, hxs⟩ := hown
  refine wpList_append_own_at w hgd s x 22 ho B 30 i0 (.slice none 0 0) 1 24 Try.underlying22 hi hz0 hz1 hz2 rfl (by decide) v ls.length xs hs ho1 ⟨g, 0, none⟩ 1 1 [.slice aa l.length c] hx rfl (one_cell hcell) (by simp [Value.oneCell']) (by unfold maxLen; omega) (by omega) hB ?_
  intro v' w' h1 h2 _ h5
  have hk : Keep B w w' := (Keep.refl B w).grown h2 (Other.of_own ho1 (by decide))
  refine h v' w' ⟨xs ++ [.slice aa l.length c], by simpa using h1, fun i hi' => ?_⟩ ⟨hk, h2, h5⟩
  have hxl : xs.length = ls.length := by simpa using ho1.1
  by_cases e : i < ls.length
  · obtain ⟨a', c', e1, e2⟩ := hxs i e
    refine ⟨a', c', ?_, ?_⟩
    · rw [List.getElem_append_left e, List.getElem?_append_left (by omega)]; exact e1
    · rw [List.getElem_append_left e]; exact e2.keep hk
  · have e2 : i = ls.length := by simp at hi'; omega
    subst e2
    refine ⟨aa, c, ?_, ?_⟩
    · rw [List.getElem_append_right (Nat.le_refl _), List.getElem?_append_right (by omega)]
      simp [hxl]
    · rw [List.getElem_append_right (Nat.le_refl _)]
      simpa using hrw.keep hk

/-- Two slices that are made side by side. -/
structure Two (B : Nat) (w : World) (v1 v2 : Value) (l1 l2 : Rws) : Prop where
  one : Own B w v1 l1
  two : Own B w v2 l2
  apart : ∀ g, v1.ownBlock = some g → v2.ownBlock ≠ some g
theorem own_lt {w : World} {B e s n g : Nat} {v : Value} {xs : List Value} (h : w.ownsRow B e s v n xs) (hg : v.ownBlock = some g) : g < w.heap.size := by
  rcases h.2 with ⟨rfl, _⟩ | ⟨g', cap, cur, rfl, _, hh, _⟩
  · simp [Value.ownBlock] at hg
  · have : g' = g := by simpa [Value.ownBlock] using hg
    subst this
    exact (Array.getElem?_eq_some_iff.1 hh).1
theorem Two.nil (B : Nat) (w : World) : Two B w (.slice none 0 0) (.slice none 0 0) [] [] := ⟨Own.nil _ _, Own.nil _ _, fun g h => by simp [Value.ownBlock] at h⟩
theorem Two.keep {B : Nat} {w w' : World} {v1 v2 : Value} {l1 l2 : Rws} (h : Two B w v1 v2 l1 l2) (k : Below w.heap.size w w') : Two B w' v1 v2 l1 l2 := ⟨h.one.keep k, h.two.keep k, h.apart⟩
theorem Own.other {B : Nat} {w w' : World} {v v2 : Value} {ls : Rws} (h : Own B w v ls) (hg : w.grownBy w' v2.ownBlock) (hk : Keep B w w') (hne : ∀ g, v.ownBlock = some g → v2.ownBlock ≠ some g) : Own B w' v ls := by
  obtain ⟨xs, ho, hx⟩ := h
  refine ⟨xs, World.ownsRow.kept ho hg ?_, fun i hi => ?_⟩
  · cases hv : v.ownBlock with
    | none => exact .inl rfl
    | some g => exact .inr fun e => hne g hv e.symm
  · obtain ⟨a, c, e1, e2⟩ := hx i hi
    exact ⟨a, c, e1, e2.keep hk⟩
theorem Two.push1 {B : Nat} {w w' : World} {v1 v1' v2 : Value} {l1 l2 : Rws} {l : List Nat} (h : Two B w v1 v2 l1 l2) (ho : Own B w' v1' (l1 ++ [l])) (hk : Keep B w w' ∧ w.grownBy w' v1.ownBlock ∧ (v1'.ownBlock = v1.ownBlock ∨ v1'.ownBlock = some w.heap.size)) : Two B w' v1' v2 (l1 ++ [l]) l2 := by
  refine ⟨ho, h.two.other hk.2.1 hk.1 fun g h2 h1 => h.apart g h1 h2, fun g h1 h2 => ?_⟩
  rcases hk.2.2 with e | e
  · exact h.apart g (by rw [← e]; exact h1) h2
  · obtain ⟨xs, hx⟩ := h.two.row
    have := own_lt hx h2
    rw [e] at h1
    have : w.heap.size = g := by simpa using h1
    omega
theorem Two.push2 {B : Nat} {w w' : World} {v1 v2 v2' : Value} {l1 l2 : Rws} {l : List Nat} (h : Two B w v1 v2 l1 l2) (ho : Own B w' v2' (l2 ++ [l])) (hk : Keep B w w' ∧ w.grownBy w' v2.ownBlock ∧ (v2'.ownBlock = v2.ownBlock ∨ v2'.ownBlock = some w.heap.size)) : Two B w' v1 v2' l1 (l2 ++ [l]) := by
  refine ⟨h.one.other hk.2.1 hk.1 h.apart, ho, fun g h1 h2 => ?_⟩
  rcases hk.2.2 with e | e
  · exact h.apart g h1 (by rw [← e]; exact h2)
  · obtain ⟨xs, hx⟩ := h.one.row
    have := own_lt hx h1
    rw [e] at h2
    have : w.heap.size = g := by simpa using h2
    omega

theorem Sl.take {w : World} {a : Option Addr} {cap : Nat} {l : List Nat} (h : Sl w a cap l) (q : Nat) : Sl w a cap (l.take q) := by
  have hle : (l.take q).length ≤ l.length := by rw [List.length_take]; omega
  refine ⟨fun n hn => h.byte n (List.mem_of_mem_take hn), Nat.le_trans hle h.len, h.most, fun e => ⟨by rw [(h.none e).1, List.take_nil], (h.none e).2⟩, ?_⟩
  rcases h.here with rfl | ⟨b, off, e, hb⟩
  · exact .inl List.take_nil
  · refine .inr ⟨b, off, e, fun i hi => ?_⟩
    rw [hb i (by omega), List.getElem_take]
theorem Rw.take {B : Nat} {w : World} {a : Option Addr} {cap : Nat} {l : List Nat} (h : Rw B w a cap l) (q : Nat) : Rw B w a cap (l.take q) :=
  ⟨h.sl.take q, fun hl p hp => h.tag (fun e => hl (by rw [e, List.take_nil])) p hp⟩
theorem Rw.mono {B B' : Nat} {w : World} {a : Option Addr} {cap : Nat} {l : List Nat} (h : Rw B w a cap l) (hB : B ≤ B') : Rw B' w a cap l :=
  ⟨h.sl, fun hl p hp => (h.tag hl p hp).imp (fun h => by omega) id⟩
theorem empty_sl (w : World) (b : Nat) : Sl w (some ⟨b, 0, none⟩) 0 [] := ⟨by simp [IsByte], by simp, by simp, fun e => (by cases e), .inl rfl⟩
theorem take_min (l : List Nat) (m : Nat) : l.take (min l.length m) = l.take m := by
  by_cases h : m ≤ l.length
  · rw [Nat.min_eq_right h]
  · rw [Nat.min_eq_left (by omega), List.take_length, List.take_of_length_le (by omega)]

theorem apart_left {B : Nat} {w : World} {v v' u : Value} {l : Rws} (h : ∀ g, v.ownBlock = some g → u.ownBlock ≠ some g) (hu : Own B w u l) (e : v'.ownBlock = v.ownBlock ∨ v'.ownBlock = some w.heap.size) : ∀ g, v'.ownBlock = some g → u.ownBlock ≠ some g := fun g h1 h2 => by
  rcases e with e | e
  · exact h g (by rw [← e]; exact h1) h2
  · obtain ⟨xs, hx⟩ := hu.row
    have := own_lt hx h2
    rw [e] at h1
    have : w.heap.size = g := by simpa using h1
    omega
theorem apart_turn {v u : Value} (h : ∀ g, v.ownBlock = some g → u.ownBlock ≠ some g) : ∀ g, u.ownBlock = some g → v.ownBlock ≠ some g := fun g h1 h2 => h g h2 h1
/-- Three slices that are made side by side. -/
structure Three (B : Nat) (w : World) (v1 v2 v3 : Value) (l1 l2 l3 : Rws) : Prop where
  one : Own B w v1 l1
  two : Own B w v2 l2
  three : Own B w v3 l3
  a12 : ∀ g, v1.ownBlock = some g → v2.ownBlock ≠ some g
  a13 : ∀ g, v1.ownBlock = some g → v3.ownBlock ≠ some g
  a23 : ∀ g, v2.ownBlock = some g → v3.ownBlock ≠ some g
theorem Three.nil (B : Nat) (w : World) : Three B w (.slice none 0 0) (.slice none 0 0) (.slice none 0 0) [] [] [] :=
  ⟨Own.nil _ _, Own.nil _ _, Own.nil _ _, fun g h => by simp [Value.ownBlock] at h, fun g h => by simp [Value.ownBlock] at h, fun g h => by simp [Value.ownBlock] at h⟩
theorem Three.keep {B : Nat} {w w' : World} {v1 v2 v3 : Value} {l1 l2 l3 : Rws} (h : Three B w v1 v2 v3 l1 l2 l3) (k : Below w.heap.size w w') : Three B w' v1 v2 v3 l1 l2 l3 := ⟨h.one.keep k, h.two.keep k, h.three.keep k, h.a12, h.a13, h.a23⟩
theorem Three.push1 {B : Nat} {w w' : World} {v1 v1' v2 v3 : Value} {l1 l2 l3 m1 : Rws} (h : Three B w v1 v2 v3 l1 l2 l3) (ho : Own B w' v1' m1) (hk : Keep B w w' ∧ w.grownBy w' v1.ownBlock ∧ (v1'.ownBlock = v1.ownBlock ∨ v1'.ownBlock = some w.heap.size)) : Three B w' v1' v2 v3 m1 l2 l3 :=
  ⟨ho, h.two.other hk.2.1 hk.1 (apart_turn h.a12), h.three.other hk.2.1 hk.1 (apart_turn h.a13), apart_left h.a12 h.two hk.2.2, apart_left h.a13 h.three hk.2.2, h.a23⟩
theorem Three.push2 {B : Nat} {w w' : World} {v1 v2 v2' v3 : Value} {l1 l2 l3 m2 : Rws} (h : Three B w v1 v2 v3 l1 l2 l3) (ho : Own B w' v2' m2) (hk : Keep B w w' ∧ w.grownBy w' v2.ownBlock ∧ (v2'.ownBlock = v2.ownBlock ∨ v2'.ownBlock = some w.heap.size)) : Three B w' v1 v2' v3 l1 m2 l3 :=
  ⟨h.one.other hk.2.1 hk.1 h.a12, ho, h.three.other hk.2.1 hk.1 (apart_turn h.a23), apart_turn (apart_left (apart_turn h.a12) h.one hk.2.2), h.a13, apart_left h.a23 h.three hk.2.2⟩
theorem Three.push3 {B : Nat} {w w' : World} {v1 v2 v3 v3' : Value} {l1 l2 l3 m3 : Rws} (h : Three B w v1 v2 v3 l1 l2 l3) (ho : Own B w' v3' m3) (hk : Keep B w w' ∧ w.grownBy w' v3.ownBlock ∧ (v3'.ownBlock = v3.ownBlock ∨ v3'.ownBlock = some w.heap.size)) : Three B w' v1 v2 v3' l1 l2 m3 :=
  ⟨h.one.other hk.2.1 hk.1 h.a13, h.two.other hk.2.1 hk.1 h.a23, ho, h.a12, apart_turn (apart_left (apart_turn h.a13) h.one hk.2.2), apart_turn (apart_left (apart_turn h.a23) h.two hk.2.2)⟩
end Go.Proofs.Ytgfcpneblkleiaa
