/-
  Bytes behind bytes that a call has made: append, wherever it lies.
-/
import Derived.Test.YtiglmoggpjgmbaaSolLaw
import Derived.Test.YtiglmoggpjgmbaaAnyMath
import Derived.Test.YtiglmoggpjgmbaaGrowU
import Derived.Laws.OwnMore
namespace Go.Proofs.Ytiglmoggpjgmbaa
open Go.ChangeShapes Go.WideShapes Go.ChangeAt Go.RowKit Go.Joins
set_option linter.unusedVariables false

theorem run_app (B : Nat) (ty : TypeId) (g n : Nat) (l : List Nat) (ga : Option Addr) (gc : Nat) (m : List Nat) (w : World) (hg : Rw B w (some ⟨g, 0, none⟩) n l) (hl : l.length = n) (hs : Sl w ga gc m) (hn : n ≤ 100000) (hm : m.length ≤ 100000) :
    ∃ g' cap w', (Builtin.append_ #[32, 32] ty #[.slice (some ⟨g, 0, none⟩) n n, .slice ga m.length gc]).run Try.prog w = .ok (.slice (some ⟨g', 0, none⟩) (n + m.length) cap) w' ∧ Rw B w' (some ⟨g', 0, none⟩) cap (l ++ m) ∧ Below w.heap.size w w' := by
  obtain ⟨i0, hi, hz0, hz1, hz2⟩ := info_parts info8
  have hrd : ∀ (k : List Nat) (b off : Nat), BytesIn w b off k → ∀ j v, (k.map byteV)[j]? = some v → w.cell? ((⟨b, off, none⟩ : Addr).add j) = some v := fun k b off hb j v hv => by
    rw [List.getElem?_map] at hv
    obtain ⟨x, hx, rfl⟩ := Option.map_eq_some_iff.1 hv
    obtain ⟨hj, rfl⟩ := List.getElem?_eq_some_iff.1 hx
    have := hb j hj
    by_cases j0 : j = 0
    · subst j0; simpa [Addr.add, byteV] using this
    · simpa [Addr.add, j0, byteV] using this
  have hold : BytesIn w g 0 l := by
    rcases hg.sl.here with rfl | ⟨b, off, e, hb⟩
    · intro i hi; simp at hi
    · cases e; exact hb
  by_cases h0 : m = []
  · subst h0
    refine ⟨g, n, w, ?_, by rw [List.append_nil]; exact hg, Below.refl _ _⟩
    cases ga with
    | none =>
      obtain ⟨_, rfl⟩ := hs.none rfl
      simp [Builtin.append_, run_underlying Try.underlying32, sizeOf, typeInfo, hi, Builtin.lenOf, Builtin.firstCells, storeCells]
    | some ad =>
      have hf := run_firstCells_some (P := Try.prog) w i0.size 0 ad 0 gc [] (by simp) (by simp)
      simp [Builtin.append_, run_underlying Try.underlying32, sizeOf, typeInfo, hi, Builtin.lenOf, hf, storeCells]
  · have hpos : 0 < m.length := List.length_pos_iff.2 h0
    obtain ⟨b, off, rfl, hb⟩ := hs.some hpos
    have hr := run_append_grow (P := Try.prog) w 32 ty 5 i0 (.int .u8 0) Try.underlying32 hi hz0 ⟨g, 0, none⟩ n n (l.map byteV) (by rw [List.length_map, hl, hz1]; simp) (hrd l g 0 hold) ⟨b, off, none⟩ m.length gc (m.map byteV) (by rw [List.length_map, hz1]; simp) (hrd m b off hb) (by omega) (by omega) (growslice_fits (by omega) (by rw [hz2]; omega))
    refine ⟨_, _, _, hr, ⟨⟨isByte_app hg.sl.byte hs.byte, ?_, ?_, fun e => (by cases e), .inr ⟨w.heap.size, 0, rfl, fun i hi => ?_⟩⟩, fun _ p hp => ?_⟩, ?_⟩
    · have := grownCap_ge w (n + m.length) n 5
      rw [List.length_append]; omega
    · exact grownCap_le_maxLen _ _ _ _ (by unfold maxLen; omega)
    · rw [List.length_append] at hi
      have hcell : ∀ (cs : Array Value) (k : Nat), (w.drew.alloc (.cells cs 5)).cell? ⟨w.heap.size, k, none⟩ = cs[k]? := fun cs k => by
        exact cell_of_row _ _ k cs 5 (0, 0) (heap_alloc_new w.drew _)
      rw [hcell, Nat.zero_add, Array.getElem?_append_left (by simp; omega), Array.getElem?_append]
      by_cases hk : i < l.length
      · rw [if_pos (by simpa using hk)]
        simp [hk, byteV, List.getElem_append_left hk]
      · rw [if_neg (by simpa using hk)]
        have hk2 : i - l.length < m.length := by omega
        simp [hk2, byteV, List.getElem_append_right (Nat.le_of_not_lt hk)]
    · cases hp
      exact .inr ⟨_, (0, 0), heap_alloc_new w.drew _⟩
    · exact ((Below.refl w.heap.size w).drew).alloc (Nat.le_refl _) _

theorem wp_app {o : Oper} {a : Act} {K : Act → World → Prop} {Q : Exit → Act → World → Prop} (B : Nat) (g n : Nat) (l : List Nat) (ga : Option Addr) (gc : Nat) (m : List Nat) (w : World) (s x : Operand)
    (ho : o.op = .call { callee := .builtin .append, args := #[s, x], argTypes := #[32, 32] }) (hsv : a.eval s = .slice (some ⟨g, 0, none⟩) n n) (hxv : a.eval x = .slice ga m.length gc)
    (hg : Rw B w (some ⟨g, 0, none⟩) n l) (hl : l.length = n) (hs : Sl w ga gc m) (hn : n ≤ 100000) (hm : m.length ≤ 100000)
    (h : ∀ g' cap w', Hid (Rw B w' (some ⟨g', 0, none⟩) cap (l ++ m)) → Below w.heap.size w w' → K (a.put o.dst (.slice (some ⟨g', 0, none⟩) (n + m.length) cap)) w') : o.wp Try.prog a w K Q := by
  obtain ⟨g', cap, w', hr, h2, h3⟩ := run_app B o.type g n l ga gc m w hg hl hs hn hm
  unfold Oper.wp execOp
  simp only [ho, resolve, invoke, builtin, Sem.run_bind, Sem.run_pure, Result.andThen_ok, List.map_toArray, List.map_cons, List.map_nil, hsv, hxv, hr]
  exact h g' cap w' h2 h3

/-- A slice of slices that is made: pushed to, where the order is open. -/
theorem wp_push {o : Oper} {a : Act} {K : Act → World → Prop} {Q : Exit → Act → World → Prop} (w : World) (s x : Operand)
    (ho : o.op = .call { callee := .builtin .append, args := #[s, x], argTypes := #[22, 22] })
    (B : Nat) (v : Value) (ls : Rws) (hs : a.eval s = v) (hown : Own B w v ls) (g : Nat) (hx : a.eval x = .slice (some ⟨g, 0, none⟩) 1 1)
    (aa : Option Addr) (c : Nat) (l : List Nat) (hcell : w.cell? ⟨g, 0, none⟩ = some (.slice aa l.length c)) (hrw : Rw B w aa c l) (hB : B ≤ w.heap.size) (hlen : ls.length ≤ 100000)
    (h : ∀ v' w', Hid (Own B w' v' (ls ++ [l])) → Hid (Keep B w w') → K (a.put o.dst v') w') : o.wp Try.prog a w K Q := by
  obtain ⟨i0, hi, hz0, hz1, hz2⟩ := info_parts infoR
  obtain ⟨xs, ho1, hxs⟩ := hown
  obtain ⟨v', w', hr, h1, h2, -, -⟩ := run_append_own_at (P := Try.prog) w B 22 o.type 32 i0 (.slice none 0 0) 1 24 Try.underlying22 hi hz0 hz1 hz2 rfl (by decide) v ls.length xs ho1 ⟨g, 0, none⟩ 1 1 [.slice aa l.length c] rfl (one_cell hcell) (by simp [Value.oneCell']) (by unfold maxLen; omega) (by omega) hB
  have hk : Keep B w w' := (Keep.refl B w).grown h2 (Other.of_own ho1 (by decide))
  unfold Oper.wp execOp
  simp only [ho, resolve, invoke, builtin, Sem.run_bind, Sem.run_pure, Result.andThen_ok, List.map_toArray, List.map_cons, List.map_nil, hs, hx, hr]
  refine h v' w' ⟨xs ++ [.slice aa l.length c], by simpa using h1, fun i hi' => ?_⟩ hk
  have hxl : xs.length = ls.length := by simpa using ho1.1
  by_cases e : i < ls.length
  · obtain ⟨a', c', e1, e2⟩ := hxs i e
    refine ⟨a', c', ?_, ?_⟩
    · rw [List.getElem_append_left e, List.getElem?_append_left (by omega)]; exact e1
    · rw [List.getElem_append_left e]; exact e2.keep hk
  · have e2 : i = ls.length := by simp at hi'; omega
    subst e2
    refine ⟨aa, c, ?_, ?_⟩
    · rw [List.getElem_append_right (Nat.le_refl _), List.getElem?_append_right (by omega)]
      simp [hxl]
    · rw [List.getElem_append_right (Nat.le_refl _)]
      simpa using hrw.keep hk
end Go.Proofs.Ytiglmoggpjgmbaa
