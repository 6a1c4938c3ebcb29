/-
  Names, plainly: the parts of a name between the strokes; which names may be. No program in this text.
-/
import Derived.Lib.Split
import Derived.Lib.SplitLaws
import Derived.Lib.Strings
namespace Go.Proofs.YthpinjmlnongpaaDoor
set_option linter.unusedVariables false

/-- The parts of a name between the strokes. -/
def partsN : List UInt8 → List (List UInt8)
  | [] => [[]]
  | c :: r => if c = 47 then [] :: partsN r else match partsN r with
    | [] => [[c]]
    | p :: ps => (c :: p) :: ps
theorem partsN_ne (l : List UInt8) : partsN l ≠ [] := by
  cases l with
  | nil => simp [partsN]
  | cons c r => unfold partsN; split; · simp
                · cases partsN r <;> simp
theorem partsN_none : ∀ {a : List UInt8}, (∀ c ∈ a, c ≠ 47) → partsN a = [a]
  | [], _ => rfl
  | c :: r, h => by
    have h1 : c ≠ 47 := h c (by simp)
    have h2 := partsN_none (a := r) fun x hx => h x (by simp [hx])
    unfold partsN
    rw [if_neg h1, h2]
theorem partsN_cut : ∀ {a : List UInt8} (r : List UInt8), (∀ c ∈ a, c ≠ 47) → partsN (a ++ 47 :: r) = a :: partsN r
  | [], r, _ => by show partsN (47 :: r) = _; rw [partsN, if_pos rfl]
  | c :: t, r, h => by
    have h1 : c ≠ 47 := h c (by simp)
    have h2 := partsN_cut (a := t) r fun x hx => h x (by simp [hx])
    show partsN (c :: (t ++ 47 :: r)) = _
    rw [partsN, if_neg h1, h2]
theorem partsN_len : ∀ (l : List UInt8), (partsN l).length ≤ l.length + 1
  | [] => by simp [partsN]
  | c :: r => by
    have := partsN_len r
    unfold partsN
    split
    · simpa using this
    · cases h : partsN r with
      | nil => simp
      | cons p ps => rw [h] at this; simp at this ⊢; omega
theorem index47 : ∀ (s : List UInt8), (Lib.index s [47] = -1 ∧ ∀ c ∈ s, c ≠ 47) ∨ ∃ i : Nat, Lib.index s [47] = i ∧ i < s.length ∧ (∀ c ∈ s.take i, c ≠ 47) ∧ s = s.take i ++ 47 :: s.drop (i + 1)
  | [] => .inl ⟨by decide, by simp⟩
  | c :: r => by
    by_cases h : c = 47
    · subst h
      exact .inr ⟨0, by unfold Lib.index; rw [if_pos (by simp [List.isPrefixOf])]; rfl, by simp, by simp, by simp⟩
    · have hp : ¬ List.isPrefixOf [47] (c :: r) = true := by
        intro e
        simp [List.isPrefixOf] at e
        exact h e.symm
      rcases index47 r with ⟨h1, h2⟩ | ⟨i, h1, h2, h3, h4⟩
      · refine .inl ⟨?_, fun x hx => ?_⟩
        · unfold Lib.index
          rw [if_neg hp, h1]; rfl
        · rcases List.mem_cons.1 hx with rfl | hx
          · exact h
          · exact h2 x hx
      · refine .inr ⟨i + 1, ?_, by simpa using h2, fun x hx => ?_, ?_⟩
        · unfold Lib.index
          rw [if_neg hp, h1, if_neg (by simp)]; rfl
        · rw [List.take_succ_cons] at hx
          rcases List.mem_cons.1 hx with rfl | hx
          · exact h
          · exact h3 x hx
        · rw [List.take_succ_cons, List.drop_succ_cons, List.cons_append, ← h4]
theorem splitK_parts : ∀ (n : Nat) (s : List UInt8), s.length ≤ n → Lib.splitK [47] 0 (Lib.count s [47]) s = partsN s := by
  intro n
  induction n with
  | zero =>
    intro s hs
    obtain rfl : s = [] := List.length_eq_zero_iff.1 (by omega)
    rfl
  | succ n ih =>
    intro s hs
    rcases index47 s with ⟨h1, h2⟩ | ⟨i, h1, h2, h3, h4⟩
    · rw [Lib.count_miss h1, partsN_none h2]; rfl
    · rw [Lib.count_hit (by simp) h1, Nat.add_comm, Lib.splitK, if_neg (by rw [h1]; simp), h1]
      show s.take (i + 0) :: Lib.splitK [47] 0 (Lib.count (s.drop (i + 1)) [47]) (s.drop (i + 1)) = _
      rw [ih _ (by simp; omega)]
      conv => rhs; rw [h4]
      rw [partsN_cut _ h3]; rfl
theorem split_parts (s : ByteArray) : (Lib.splitB ⟨#[47]⟩ 0 (Lib.countB s ⟨#[47]⟩) s).map (·.data.toList) = partsN s.data.toList := by
  rw [Lib.splitB_data]
  exact splitK_parts _ _ (Nat.le_refl _)
theorem count_parts (s : ByteArray) : Lib.countB s ⟨#[47]⟩ + 1 = (partsN s.data.toList).length := by
  rw [← split_parts, List.length_map]
  exact (Lib.splitB_all ⟨#[47]⟩ (by decide) 0 _ s rfl).symm

/-- A byte that a name may have. -/
def letB (c : Nat) : Bool := (decide (97 ≤ c) && decide (c ≤ 122)) || (decide (48 ≤ c) && decide (c ≤ 57)) || decide (c = 46) || decide (c = 95) || decide (c = 45)
def partB (p : List UInt8) : Bool := !(p == []) && !(p == [46]) && !(p == [46, 46])
/-- Whether a file may have the name. -/
def nameB (l : List UInt8) : Bool := decide (l.length ≤ 40) && !Lib.hasSuffix l [46, 103, 121, 115] && l.all (fun c => letB c.toNat || decide (c.toNat = 47)) && (partsN l).all partB && !((partsN l).head? == some [111, 108, 100]) && !((partsN l).head? == some [116, 109, 112])
theorem nameB_nil : nameB [] = false := by decide +kernel
theorem nameB_iff (l : List UInt8) : nameB l = true ↔ l.length ≤ 40 ∧ Lib.hasSuffix l [46, 103, 121, 115] = false ∧ (∀ c ∈ l, letB c.toNat = true ∨ c.toNat = 47) ∧ (∀ p ∈ partsN l, partB p = true) ∧ (partsN l).head? ≠ some [111, 108, 100] ∧ (partsN l).head? ≠ some [116, 109, 112] := by
  unfold nameB
  simp only [Bool.and_eq_true, decide_eq_true_eq, Bool.not_eq_true', List.all_eq_true, Bool.or_eq_true, beq_eq_false_iff_ne, ne_eq, and_assoc]
end Go.Proofs.YthpinjmlnongpaaDoor
