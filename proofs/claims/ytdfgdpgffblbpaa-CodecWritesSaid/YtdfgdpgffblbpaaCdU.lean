/-
  Package codec: sized, spoil, put.
-/
import Derived.Test.YtdfgdpgffblbpaaCdO
namespace Go.Proofs.Ytdfgdpgffblbpaa
open Go.ChangeShapes Go.WideShapes Go.ChangeAt Go.RowKit Go.Joins
set_option linter.unusedVariables false

set_option maxRecDepth 100000 in
theorem sized_any (n : Int) (w : World) (hn : i64R n) : Calls Try.prog 21 #[.int .i64 n] w fun e w' => e = .returned (.bool (decide (1 ≤ n ∧ n ≤ 6))) ∧ w = w' := by
  have h1 := hn.1
  have h2 := hn.2
  by_cases g1 : 1 ≤ n
  · have d1 : decide (1 ≤ n) = true := decide_eq_true g1
    by_cases g2 : n ≤ 6
    · have d2 : decide (n ≤ 6) = true := decide_eq_true g2
      have HR : Hid (decide (1 ≤ n ∧ n ≤ 6) = true) := decide_eq_true ⟨g1, g2⟩
      go_enter Try.func21, Try.ntmps21
      go_wp2_with fail
      go_ret
      exact ⟨ret_bool HR.out.symm, rfl⟩
    · have d2 : decide (n ≤ 6) = false := decide_eq_false g2
      have HR : Hid (decide (1 ≤ n ∧ n ≤ 6) = false) := decide_eq_false fun h => g2 h.2
      clear g1 g2
      go_enter Try.func21, Try.ntmps21
      go_wp2_with fail
      go_ret
      exact ⟨ret_bool HR.out.symm, rfl⟩
  · have d1 : decide (1 ≤ n) = false := decide_eq_false g1
    have HR : Hid (decide (1 ≤ n ∧ n ≤ 6) = false) := decide_eq_false fun h => g1 h.1
    clear g1
    go_enter Try.func21, Try.ntmps21
    go_wp2_with fail
    go_ret
    exact ⟨ret_bool HR.out.symm, rfl⟩

set_option maxRecDepth 100000 in
theorem spoil_any (X : Nat → Prop) (w : World) (b : Nat) (s : Option (List Nat)) (q q' : Nat) (h : OutAt X w b s q) :
    Calls Try.prog 22 #[.pointer (some ⟨b, 0, none⟩)] w (OutPost OutAt X w b none q') := by
  have HO := Lib.hid (h.spoil (q' := q'))
  have HF := Lib.hid (h.frame 1 (.bool true) (h.frame 0 (.pointer none) (Fr.refl X w)))
  obtain ⟨h1, h2, p, h3, h4⟩ := h
  have c0 := cell_of_block (i := 0) h3
  have c1 := cell_of_block (i := 1) h3
  have f0 := unfrozen_of_block h3 0
  have f1 := unfrozen_of_block h3 1
  simp only [List.getElem?_toArray, List.getElem?_cons_zero, List.getElem?_cons_succ] at c0 c1
  clear h1 h2 h3 h4
  go_enter Try.func22, Try.ntmps22
  go_wp2_with fail
  go_end0
  exact ⟨rfl, X, HO.out, fun _ h => .inl h, HF.out⟩
set_option maxRecDepth 100000 in
theorem spoil_nil (w : World) : Calls Try.prog 22 #[.pointer none] w fun e w' => e = .returned (.tuple #[]) ∧ w = w' := by
  go_enter Try.func22, Try.ntmps22
  go_wp2_with fail
  go_end0
  exact ⟨rfl, rfl⟩

/-- Bytes that nobody else has are put. -/
def PutPost (X : Nat → Prop) (w : World) (b : Nat) (s : Option (List Nat)) (q : Nat) (a : Option Addr) (e : Ending) (w' : World) : Prop :=
  e = .returned (.tuple #[]) ∧ ∃ X', OutAt X' w' b s q ∧ (∀ k, X' k → X k ∨ w.heap.size ≤ k ∨ ∃ r, a = some r ∧ k = r.block) ∧ Fr X w w'
set_option maxRecDepth 100000 in
theorem put_any (X : Nat → Prop) (w : World) (b : Nat) (s : Option (List Nat)) (q : Nat) (a : Option Addr) (c : Nat) (l : List Nat) (h : OutAt X w b s q) (hs : Sl w a c l) (hb : ∀ r, a = some r → l ≠ [] → r.block ≠ b) :
    Calls Try.prog 23 #[.pointer (some ⟨b, 0, none⟩), .slice a l.length c] w (PutPost X w b (addO s (some l)) (q + l.length) a) := by
  have hlm := hs.lt
  have H := Lib.hid h
  obtain ⟨h1, h2, p, h3, h4⟩ := h
  have c0 := cell_of_block (i := 0) h3
  have c1 := cell_of_block (i := 1) h3
  have f0 := unfrozen_of_block h3 0
  simp only [List.getElem?_toArray, List.getElem?_cons_zero, List.getElem?_cons_succ] at c0 c1
  have hbl : b < w.heap.size := h2 b h1
  cases s with
  | none =>
    have HR : Hid (PutPost X w b (addO none (some l)) (q + l.length) a (.returned (.tuple #[])) w) := ⟨rfl, X, H.out.mono (by omega), fun _ h => .inl h, Fr.refl _ _⟩
    clear H h1 h2 h3 h4 hs hb
    simp only [Option.isNone_none] at c1
    go_enter Try.func23, Try.ntmps23
    go_wp2_with fail
    go_end0
    exact HR.out
  | some m =>
    simp only [Option.isNone_some] at c1
    by_cases h0 : l = []
    · subst h0
      have HR : Hid (PutPost X w b (addO (some m) (some [])) (q + ([] : List Nat).length) a (.returned (.tuple #[])) w) := ⟨rfl, X, by simpa [addO] using H.out, fun _ h => .inl h, Fr.refl _ _⟩
      clear H h1 h2 h3 h4 hs hb
      go_enter Try.func23, Try.ntmps23
      go_wp2_with fail
      go_end0
      exact HR.out
    · have HO := Lib.hid (H.out.add h3 hs h0 fun r hr => hb r hr h0)
      have HF : Hid (Fr X w ((w.alloc (.cells #[.pointer p, .slice a l.length c] 54)).setCell ⟨b, 0, none⟩ (.pointer (some ⟨w.heap.size, 0, none⟩)))) := H.out.frame 0 _ (Fr.of_below ((Below.refl _ _).alloc (Nat.le_refl _) _))
      rw [World.setCell_alloc_past _ _ _ _ hbl] at HO HF
      have hl0 : ((l.length : Int) == 0) = false := by
        rw [beq_eq_false_iff_ne]
        have := List.length_pos_iff.2 h0
        omega
      have hd0 : decide ((l.length : Int) = 0) = false := decide_eq_false fun e => by
        have := List.length_pos_iff.2 h0
        omega
      clear H h1 h2 h3 h4 hs hb h0
      go_enter Try.func23, Try.ntmps23
      go_wp2_with fail
      go_end0
      exact ⟨rfl, _, HO.out, fun k hk => by
        rcases hk with h | h | h
        · exact .inl h
        · exact .inr (.inl (by omega))
        · exact .inr (.inr h), HF.out⟩
set_option maxRecDepth 100000 in
theorem put_nil (a : Option Addr) (n c : Nat) (w : World) : Calls Try.prog 23 #[.pointer none, .slice a n c] w fun e w' => e = .returned (.tuple #[]) ∧ w = w' := by
  go_enter Try.func23, Try.ntmps23
  go_wp2_with fail
  refine bodyPost_ret (results_none rfl _ _ _) rfl ?_
  exact ⟨rfl, rfl⟩
end Go.Proofs.Ytdfgdpgffblbpaa
