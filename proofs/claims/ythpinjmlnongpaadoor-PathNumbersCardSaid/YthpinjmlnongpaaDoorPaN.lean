/-
  Names, plainly: what a reader knows who goes through a name from the left, part by part.
-/
import Derived.Test.YthpinjmlnongpaaDoorPaM
namespace Go.Proofs.YthpinjmlnongpaaDoor
set_option linter.unusedVariables false

/-- The part begins at F, the reader is at k; D: the parts ahead. -/
structure PathSt (l : List UInt8) (F k : Nat) (D : List (List UInt8)) : Prop where
  le : F ≤ k
  top : k ≤ l.length + 1
  none : ∀ c ∈ (l.take k).drop F, c ≠ 47
  let_ : ∀ c ∈ l.take k, letB c.toNat = true ∨ c.toNat = 47
  good : ∀ p ∈ D, partB p = true
  zero : F = 0 ↔ D = []
  head1 : D.head? ≠ some [111, 108, 100]
  head2 : D.head? ≠ some [116, 109, 112]
  rest : k ≤ l.length → partsN l = D ++ partsN (l.drop F)
  last : k = l.length + 1 → partsN l = D
theorem PathSt.start (l : List UInt8) : PathSt l 0 0 [] := ⟨by omega, by omega, by simp, by simp, by simp, by simp, by simp, by simp, fun _ => by simp, fun h => by omega⟩
theorem take_get {l : List UInt8} {k : Nat} {x : UInt8} (h : l[k]? = some x) : l.take (k + 1) = l.take k ++ [x] ∧ k < l.length ∧ l.drop k = x :: l.drop (k + 1) := by
  obtain ⟨hk, e⟩ := List.getElem?_eq_some_iff.1 h
  refine ⟨by rw [List.take_succ_eq_append_getElem hk, e], hk, by rw [← e, List.drop_eq_getElem_cons hk]⟩
theorem drop_piece {l : List UInt8} {F k : Nat} (h1 : F ≤ k) (h2 : k ≤ l.length) : l.drop F = (l.take k).drop F ++ l.drop k := by
  conv => lhs; rw [← List.take_append_drop k l]
  rw [List.drop_append_of_le_length (by rw [List.length_take]; omega)]
/-- A byte that isn't a stroke. -/
theorem PathSt.char {l : List UInt8} {F k : Nat} {D : List (List UInt8)} (h : PathSt l F k D) {x : UInt8} (hx : l[k]? = some x) (h47 : x.toNat ≠ 47) (hl : letB x.toNat = true) : PathSt l F (k + 1) D := by
  obtain ⟨e1, hk, e2⟩ := take_get hx
  refine ⟨by have := h.le; omega, by omega, fun c hc => ?_, fun c hc => ?_, h.good, h.zero, h.head1, h.head2, fun _ => h.rest (by omega), fun he => by omega⟩
  · rw [e1, List.drop_append_of_le_length (by rw [List.length_take]; have := h.le; omega)] at hc
    rcases List.mem_append.1 hc with hc | hc
    · exact h.none c hc
    · obtain rfl : c = x := by simpa using hc
      intro e; subst e; exact h47 rfl
  · rw [e1] at hc
    rcases List.mem_append.1 hc with hc | hc
    · exact h.let_ c hc
    · obtain rfl : c = x := by simpa using hc
      exact .inl hl
/-- The part that ends at k. -/
theorem PathSt.piece {l : List UInt8} {F k : Nat} {D : List (List UInt8)} (h : PathSt l F k D) (hk : k ≤ l.length) (he : ∀ x, l[k]? = some x → x.toNat = 47) :
    partsN (l.drop F) = (l.take k).drop F :: (if k < l.length then partsN (l.drop (k + 1)) else []) := by
  rw [drop_piece h.le hk]
  by_cases hlt : k < l.length
  · rw [if_pos hlt]
    obtain ⟨e1, _, e2⟩ := take_get (List.getElem?_eq_getElem hlt)
    have := he _ (List.getElem?_eq_getElem hlt)
    have e3 : l[k] = 47 := UInt8.toNat_inj.1 this
    rw [e2, e3, partsN_cut _ h.none]
  · rw [if_neg hlt, List.drop_eq_nil_of_le (by omega : l.length ≤ k), List.append_nil, partsN_none h.none]
theorem PathSt.mem {l : List UInt8} {F k : Nat} {D : List (List UInt8)} (h : PathSt l F k D) (hk : k ≤ l.length) (he : ∀ x, l[k]? = some x → x.toNat = 47) :
    (l.take k).drop F ∈ partsN l ∧ (F = 0 → (partsN l).head? = some ((l.take k).drop F)) := by
  rw [h.rest hk, h.piece hk he]
  refine ⟨by simp, fun h0 => ?_⟩
  rw [h.zero.1 h0]; rfl
theorem PathSt.part {l : List UInt8} {F k : Nat} {D : List (List UInt8)} (h : PathSt l F k D) (hk : k ≤ l.length) (he : ∀ x, l[k]? = some x → x.toNat = 47)
    (hg : partB ((l.take k).drop F) = true) (h1 : F = 0 → (l.take k).drop F ≠ [111, 108, 100]) (h2 : F = 0 → (l.take k).drop F ≠ [116, 109, 112]) : PathSt l (k + 1) (k + 1) (D ++ [(l.take k).drop F]) := by
  have hp := h.piece hk he
  have hr := h.rest hk
  refine ⟨by omega, by omega, fun c hc => ?_, fun c hc => ?_, fun p hp => ?_, ⟨fun e => by omega, fun e => by simp at e⟩, ?_, ?_, fun hk2 => ?_, fun e => ?_⟩
  · rw [List.drop_eq_nil_of_le (by rw [List.length_take]; omega)] at hc; simp at hc
  · by_cases hlt : k < l.length
    · obtain ⟨e1, _, e2⟩ := take_get (List.getElem?_eq_getElem hlt)
      rw [e1] at hc
      rcases List.mem_append.1 hc with hc | hc
      · exact h.let_ c hc
      · obtain rfl : c = l[k] := by simpa using hc
        exact .inr (he _ (List.getElem?_eq_getElem hlt))
    · rw [List.take_of_length_le (by omega)] at hc
      exact h.let_ c (by rw [List.take_of_length_le (by omega)]; exact hc)
  · rcases List.mem_append.1 hp with hp | hp
    · exact h.good p hp
    · obtain rfl : p = (l.take k).drop F := by simpa using hp
      exact hg
  · cases hD : D with
    | nil => intro e; exact h1 (h.zero.2 hD) (by simpa using e)
    | cons d r => have := h.head1; rw [hD] at this; exact this
  · cases hD : D with
    | nil => intro e; exact h2 (h.zero.2 hD) (by simpa using e)
    | cons d r => have := h.head2; rw [hD] at this; exact this
  · rw [hr, hp, if_pos (by omega)]; simp
  · rw [hr, hp, if_neg (by omega)]
theorem PathSt.done {l : List UInt8} {F : Nat} {D : List (List UInt8)} (h : PathSt l F (l.length + 1) D) (h40 : l.length ≤ 40) (hs : Lib.hasSuffix l [46, 103, 121, 115] = false) : nameB l = true := by
  rw [nameB_iff, h.last rfl]
  refine ⟨h40, hs, fun c hc => h.let_ c (by rw [List.take_of_length_le (by omega)]; exact hc), h.good, h.head1, h.head2⟩
end Go.Proofs.YthpinjmlnongpaaDoor
