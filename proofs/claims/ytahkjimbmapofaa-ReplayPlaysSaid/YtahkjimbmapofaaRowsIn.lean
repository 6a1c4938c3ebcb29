/-
  Rows of bytes that came in; a string of bytes in any world that comes out of one by making memory.
-/
import Derived.Test.YtahkjimbmapofaaMat
import Derived.Test.YtahkjimbmapofaaGrow
import Derived.Deep.Matrix
namespace Go.Proofs.Ytahkjimbmapofaa
open Go.ChangeShapes Go.WideShapes Go.ChangeAt Go.RowKit Go.Joins
set_option linter.unusedVariables false

/-- Rows that came in. -/
theorem rows_in {H : Type} {enc : TypeId × Value → H} {w : World} {base fuel : Nat} {held : Bool} {c : Value} {x : DataW H × List MemPlace}
    (h : DataW.trod enc Try.prog w base (fun _ => true) held fuel 26 [c] = some x) :
    ∃ (a : Option Addr) (cap : Nat) (ls : Rws), c = .slice a ls.length cap ∧ Rs w.heap.size w a cap ls := by
  rcases Go.Deep.open_int_rows Try.underlying26 Try.underlying34 Try.underlying5 (by kernel_rfl) (by kernel_rfl) h with ⟨hcs, _⟩ | ⟨a, len, cap, A, L, C, Z, hcs, _, hl, hm, _, hr⟩
  · simp only [List.cons.injEq, and_true] at hcs
    exact ⟨none, 0, [], hcs, nil_rs _ _⟩
  · simp only [List.cons.injEq, and_true] at hcs
    have hlen : ((List.range len).map fun r => ((Z r).take (L r)).map Int.toNat).length = len := by simp
    refine ⟨some a, cap, (List.range len).map fun r => ((Z r).take (L r)).map Int.toNat, by rw [hlen]; exact hcs, by rw [hlen]; exact hl, hm, fun e => (by cases e), ?_⟩
    by_cases h0 : len = 0
    · subst h0; exact .inl rfl
    · obtain ⟨b, off, spot⟩ := a
      have hc0 := (hr 0 (by omega)).1
      have hspot : spot = none := by simpa [Addr.add] using World.cell?_spot hc0
      subst hspot
      have hadd : ∀ r, (⟨b, off, none⟩ : Addr).add r = ⟨b, off + r, none⟩ := fun r => by
        by_cases r0 : r = 0
        · subst r0; simp [Addr.add]
        · simp [Addr.add, r0]
      refine .inr ⟨b, off, rfl, ?_, fun r hrl => ?_⟩
      · rw [hadd] at hc0; exact World.block_lt_of_cell? w _ hc0
      · rw [hlen] at hrl
        obtain ⟨h1, h2, h3, h4, h5, h6, h7⟩ := hr r (by omega)
        rw [hadd] at h1
        have hlr : (((List.range len).map fun r => ((Z r).take (L r)).map Int.toNat)[r]'(by rw [hlen]; exact hrl)) = ((Z r).take (L r)).map Int.toNat := by simp
        rw [hlr]
        have hll : (((Z r).take (L r)).map Int.toNat).length = L r := by simp; omega
        have hb255 : ∀ z ∈ Z r, 0 ≤ z ∧ z ≤ 255 := fun z hz => by
          have := h5 z hz
          simpa [Lit.wf, IntKind.min, IntKind.max, IntKind.signed, IntKind.bits] using this
        refine ⟨A r, C r, by rw [hll]; exact h1, Rw.of_sl ⟨fun n hn => ?_, by rw [hll]; exact h2, h3, fun e => ?_, ?_⟩⟩
        · obtain ⟨z, hz1, rfl⟩ := List.mem_map.1 hn
          have := hb255 z (List.mem_of_mem_take hz1)
          omega
        · have hC := h6 e
          exact ⟨List.length_eq_zero_iff.1 (by rw [hll]; omega), hC⟩
        · by_cases hL : L r = 0
          · exact .inl (List.length_eq_zero_iff.1 (by rw [hll]; exact hL))
          · cases hA : A r with
            | none => have := h6 hA; omega
            | some a' =>
              obtain ⟨b', off', spot'⟩ := a'
              have hcell := (h7 _ hA).2
              have hc0' := hcell 0 (by omega)
              have hspot' : spot' = none := by simpa [Addr.add] using World.cell?_spot hc0'
              subst hspot'
              refine .inr ⟨b', off', rfl, fun i hi => ?_⟩
              rw [hll] at hi
              have hci := hcell i (by omega)
              have e : (Z r).getD i 0 = (Z r)[i]'(by omega) := by simp [List.getD, show i < (Z r).length by omega]
              rw [e] at hci
              have hb := hb255 _ (List.getElem_mem (show i < (Z r).length by omega))
              have e2 : (((((Z r).take (L r)).map Int.toNat)[i]'(by rw [hll]; exact hi) : Nat) : Int) = (Z r)[i]'(by omega) := by simp; omega
              rw [e2, ← hci]
              by_cases hi0 : i = 0
              · subst hi0; simp [Addr.add]
              · simp [Addr.add, hi0]


theorem conv_class {w : World} {a : Option Addr} {n cap : Nat} {l : List Nat} (h : Sl w a cap l) (hn : l.length = n) : ∀ d os, (convert 34 9 (.slice a n cap)).run Try.prog (Sort.grow (redrawn w d) os) = .ok (.string (strOf l)) (Sort.grow (redrawn w d) os) := fun d os => by
  subst hn
  exact conv_sl _ a cap l (h.below (below_regrown w d os))

end Go.Proofs.Ytahkjimbmapofaa
