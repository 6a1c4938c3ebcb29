/-
  Bytes appended to bytes that are just made.
-/
import Derived.Test.YtdfgdpgffblbpaaMat
import Derived.Laws.Append
import Derived.Laws.AppendOwn
namespace Go.Proofs.Ytdfgdpgffblbpaa
open Go.ChangeShapes Go.WideShapes Go.ChangeAt Go.RowKit Go.Joins
set_option linter.unusedVariables false

theorem byte_appB {l m : List Nat} (h1 : IsByte l) (h2 : IsByte m) : IsByte (l ++ m) := fun n hn => (List.mem_append.1 hn).elim (h1 n) (h2 n)
theorem info8B : (Try.prog.info? 5).map (fun i => (i.zero, i.size, i.bytes)) = some (some (.int .u8 0), 1, 1) := by kernel_rfl
theorem run_appB (B : Nat) (ty : TypeId) (g n : Nat) (l : List Nat) (ga : Option Addr) (gc : Nat) (m : List Nat) (w : World) (hg : Rw B w (some ⟨g, 0, none⟩) n l) (hl : l.length = n) (hs : Sl w ga gc m) (hn : n ≤ 100000) (hm : m.length ≤ 100000) :
    ∃ g' cap w', (Builtin.append_ #[28, 28] ty #[.slice (some ⟨g, 0, none⟩) n n, .slice ga m.length gc]).run Try.prog w = .ok (.slice (some ⟨g', 0, none⟩) (n + m.length) cap) w' ∧ Rw B w' (some ⟨g', 0, none⟩) cap (l ++ m) ∧ Below w.heap.size w w' := by
  obtain ⟨i0, hi, hz0, hz1, hz2⟩ := info_parts info8B
  have hrd : ∀ (k : List Nat) (b off : Nat), BytesIn w b off k → ∀ j v, (k.map byteV)[j]? = some v → w.cell? ((⟨b, off, none⟩ : Addr).add j) = some v := fun k b off hb j v hv => by
    rw [List.getElem?_map] at hv
    obtain ⟨x, hx, rfl⟩ := Option.map_eq_some_iff.1 hv
    obtain ⟨hj, rfl⟩ := List.getElem?_eq_some_iff.1 hx
    have := hb j hj
    by_cases j0 : j = 0
    · subst j0; simpa [Addr.add, byteV] using this
    · simpa [Addr.add, j0, byteV] using this
  have hold : BytesIn w g 0 l := by
    rcases hg.sl.here with rfl | ⟨b, off, e, hb⟩
    · intro i hi; simp at hi
    · cases e; exact hb
  by_cases h0 : m = []
  · subst h0
    refine ⟨g, n, w, ?_, by rw [List.append_nil]; exact hg, Below.refl _ _⟩
    cases ga with
    | none =>
      obtain ⟨_, rfl⟩ := hs.none rfl
      simp [Builtin.append_, run_underlying Try.underlying28, sizeOf, typeInfo, hi, Builtin.lenOf, Builtin.firstCells, storeCells]
    | some ad =>
      have hf := run_firstCells_some (P := Try.prog) w i0.size 0 ad 0 gc [] (by simp) (by simp)
      simp [Builtin.append_, run_underlying Try.underlying28, sizeOf, typeInfo, hi, Builtin.lenOf, hf, storeCells]
  · have hpos : 0 < m.length := List.length_pos_iff.2 h0
    obtain ⟨b, off, rfl, hb⟩ := hs.some hpos
    have hr := run_append_grow (P := Try.prog) w 28 ty 5 i0 (.int .u8 0) Try.underlying28 hi hz0 ⟨g, 0, none⟩ n n (l.map byteV) (by rw [List.length_map, hl, hz1]; simp) (hrd l g 0 hold) ⟨b, off, none⟩ m.length gc (m.map byteV) (by rw [List.length_map, hz1]; simp) (hrd m b off hb) (by omega) (by omega) (growslice_fits (by omega) (by rw [hz2]; omega))
    refine ⟨_, _, _, hr, ⟨⟨byte_appB hg.sl.byte hs.byte, ?_, ?_, fun e => (by cases e), .inr ⟨w.heap.size, 0, rfl, fun i hi => ?_⟩⟩, fun _ p hp => ?_⟩, ?_⟩
    · have := grownCap_ge w (n + m.length) n 5
      rw [List.length_append]; omega
    · exact grownCap_le_maxLen _ _ _ _ (by unfold maxLen; omega)
    · rw [List.length_append] at hi
      have hcell : ∀ (cs : Array Value) (k : Nat), (w.drew.alloc (.cells cs 5)).cell? ⟨w.heap.size, k, none⟩ = cs[k]? := fun cs k => by
        exact cell_of_row _ _ k cs 5 (0, 0) (heap_alloc_new w.drew _)
      rw [hcell, Nat.zero_add, Array.getElem?_append_left (by simp; omega), Array.getElem?_append]
      by_cases hk : i < l.length
      · rw [if_pos (by simpa using hk)]
        simp [hk, byteV, List.getElem_append_left hk]
      · rw [if_neg (by simpa using hk)]
        have hk2 : i - l.length < m.length := by omega
        simp [hk2, byteV, List.getElem_append_right (Nat.le_of_not_lt hk)]
    · cases hp
      exact .inr ⟨_, (0, 0), heap_alloc_new w.drew _⟩
    · exact ((Below.refl w.heap.size w).drew).alloc (Nat.le_refl _) _


theorem wpList_appB {ops : Array Oper} {rest : List Oper} {o : Oper} {a : Act} {Q : Exit → Act → World → Prop} (B : Nat) (g n : Nat) (l : List Nat) (ga : Option Addr) (gc q : Nat) (m : List Nat) (w : World) (hgd : o.guard = none) (s x : Operand)
    (ho : o.op = .call { callee := .builtin .append, args := #[s, x], argTypes := #[28, 28] }) (hsv : a.eval s = .slice (some ⟨g, 0, none⟩) n n) (hxv : a.eval x = .slice ga q gc) (hq : m.length = q)
    (hg : Rw B w (some ⟨g, 0, none⟩) n l) (hl : l.length = n) (hs : Sl w ga gc m) (hn : n ≤ 100000) (hm : m.length ≤ 100000)
    (h : ∀ g' cap w', Hid (Rw B w' (some ⟨g', 0, none⟩) cap (l ++ m)) → Below w.heap.size w w' → wpList Try.prog ops Q rest (a.put o.dst (.slice (some ⟨g', 0, none⟩) (n + q) cap)) w') : wpList Try.prog ops Q (o :: rest) a w := by
  subst hq
  refine wpList_plain hgd fun K hK => ?_
  obtain ⟨g', cap, w', hr, h2, h3⟩ := run_appB B o.type g n l ga gc m w hg hl hs hn hm
  unfold Oper.wp execOp
  simp only [ho, resolve, invoke, builtin, Sem.run_bind, Sem.run_pure, Result.andThen_ok, List.map_toArray, List.map_cons, List.map_nil, hsv, hxv, hr]
  exact hK _ _ (h g' cap w' h2 h3)
end Go.Proofs.Ytdfgdpgffblbpaa
