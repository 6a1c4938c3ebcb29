/-
  A copy of the changes that wait.
-/
import Derived.Test.YtoiggdcgfbjhpaaDskS
namespace Go.Proofs.Ytoiggdcgfbjhpaa
open Go.ChangeShapes Go.WideShapes Go.ChangeAt Go.RowKit Go.Joins
set_option linter.unusedVariables false

theorem eqc_none (w : World) : (binOp BinOp.eql 46 (.slice none 0 0) (.slice none 0 0)).run Try.prog w = .ok (.bool true) w := by kernel_rfl
theorem eqc_some (g n cap : Nat) (w : World) : (binOp BinOp.eql 46 (.slice (some ⟨g, 0, none⟩) n cap) (.slice none 0 0)).run Try.prog w = .ok (.bool false) w := by kernel_rfl
theorem encC_one {ι : Nat → Option Nat} {l : List (Value × Chg)} (h : ∀ x ∈ l, fileR ι x.1 = some (idD x.2.made, [])) : ∀ u ∈ encC l, u.oneCell' = true := fun u hu => by
  obtain ⟨x, hx, hu⟩ := List.mem_flatMap.1 hu
  simp only [List.mem_cons, List.not_mem_nil, or_false] at hu
  rcases hu with rfl | rfl | rfl
  · rcases fileR_inv (h x hx) with ⟨e, _⟩ | ⟨b, i, e, _⟩ <;> rw [e] <;> rfl
  · rfl
  · rfl
/-- The copy: in a row behind w0. -/
def WtsPost (ι : Nat → Option Nat) (len : Nat) (l : List (Value × Chg)) (w0 : World) (e : Ending) (w' : World) : Prop :=
  ∃ a cap, e = .returned (.slice a len cap) ∧ Wts ι w' a len cap l ∧ (cap ≤ maxLen ∧ len ≤ cap) ∧ (∀ k, (Value.slice a len cap).ownBlock = some k → w0.heap.size ≤ k) ∧ Below w0.heap.size w0 w'

set_option maxRecDepth 100000 in
theorem cloneC_any {ι : Nat → Option Nat} {w : World} {a : Option Addr} {len cap : Nat} {l : List (Value × Chg)} (h : Wts ι w a len cap l) (hn : len ≤ 1000) :
    Calls Try.prog 26 #[.slice a len cap] w (WtsPost ι len l w) := by
  have HH := Lib.hid h
  rcases h.row.2 with ⟨hv, h0⟩ | ⟨g, cap2, cur, hv, -, hg, hnc, hcm, -, -⟩
  · cases hv
    have HR : Hid (WtsPost ι 0 l w (.returned (.slice none 0 0)) w) := ⟨none, 0, rfl, HH.out, by omega, fun k hk => (by cases hk), Below.refl _ _⟩
    have hq := eqc_none w
    clear h
    go_enter Try.func26, Try.ntmps26
    go_wp2_with fail
    go_ret
    exact HR.out
  · cases hv
    obtain ⟨i0, hi, hz0, hz1, hz2⟩ := info_c infoC
    have HI := Lib.hid (And.intro hi (And.intro hz0 (And.intro hz1 hz2)))
    have HX : Hid (∀ j u, (encC l)[j]? = some u → (w.alloc (.cells #[] 61)).cell? ((⟨g, 0, none⟩ : Addr).add j) = some u) := fun j u hj => by
      have := h.row.cells (g := g) rfl j u hj
      have hlt := World.block_lt_of_cell? w _ this
      exact (World.cell?_alloc_lt w _ (a := (⟨g, 0, none⟩ : Addr).add j) hlt).trans this
    have HO : Hid ((w.alloc (.cells #[] 61)).ownsRow 0 61 3 (.slice (some ⟨w.heap.size, 0, none⟩) 0 0) 0 []) := World.ownsRow_made w #[] 0 (Nat.zero_le _) (Nat.zero_le _) rfl
    have HL : Hid ((encC l).length = len * 3) := h.row.1
    have H1 := Lib.hid (encC_one h.ptr)
    have hcz : cap ≤ 9223372036854775807 := by unfold maxLen at hcm; omega
    have hq := eqc_some g len cap w
    clear h hi hz0 hz1 hz2 hg hcm
    go_enter Try.func26, Try.ntmps26
    go_wp2_with (at_builtin; refine wpList_append_own_at _ rfl _ _ 46 rfl 0 61 i0 zeroC 3 40 Try.underlying46 HI.out.1 HI.out.2.1 HI.out.2.2.1 HI.out.2.2.2 rfl (by decide) _ 0 [] rfl HO.out ⟨g, 0, none⟩ len cap (encC l) rfl HL.out HX.out H1.out (by unfold maxLen; omega) (by omega) (Nat.zero_le _) ?_; intro v' w1 hown1 hg1 _ hat)
    have HR : Hid (WtsPost ι len l w (.returned v') w1) := by
      rw [Nat.zero_add, List.nil_append] at hown1
      obtain ⟨a', cap', rfl, e1, e2⟩ := own_shape hown1
      refine ⟨a', cap', rfl, ⟨hown1, HH.out.len, HH.out.ptr, HH.out.src⟩, ⟨e1, e2⟩, fun k hk => ?_, ⟨hg1.os, hg1.tape, hg1.output, ?_, fun k hk => ?_⟩⟩
      · rcases hat with e | e
        · rw [e] at hk
          have : w.heap.size = k := Option.some.inj hk
          omega
        · rw [e] at hk
          have : (w.alloc (.cells #[] 61)).heap.size = k := Option.some.inj hk
          simp at this
          omega
      · have := hg1.size
        simp at this
        omega
      · rw [hg1.block k (by simp; omega) (fun e => by have : k = w.heap.size := Option.some.inj e; omega)]
        exact heap_alloc_old w _ hk
    clear hown1 hg1 hat
    go_wp2_with fail
    go_ret
    exact HR.out
end Go.Proofs.Ytoiggdcgfbjhpaa
