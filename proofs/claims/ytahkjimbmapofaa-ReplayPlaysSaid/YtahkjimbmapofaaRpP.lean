/-
  The board that the law plays on: a slice of slices that a call makes by append, and stores into.
-/
import Derived.Test.YtahkjimbmapofaaRpS
import Derived.Test.YtahkjimbmapofaaRpC
import Derived.Laws.AppendOwnNone
import Derived.Maps.AppendAt
namespace Go.Proofs.Ytahkjimbmapofaa
open Go.ChangeShapes Go.WideShapes Go.ChangeAt Go.RowKit Go.Joins
set_option linter.unusedVariables false

theorem rows_in2 {H : Type} {enc : TypeId × Value → H} {w : World} {base fuel : Nat} {held : Bool} {c : Value} {x : DataW H × List MemPlace}
    (h : DataW.trod enc Try.prog w base (fun _ => true) held fuel 26 [c] = some x) :
    ∃ (a : Option Addr) (cap : Nat) (ls : Rws), c = .slice a ls.length cap ∧ Rs w.heap.size w a cap ls ∧ (a = none → cap = 0) := by
  obtain ⟨a, cap, ls, e, h1⟩ := rows_in h
  refine ⟨a, cap, ls, e, h1, fun hn => ?_⟩
  rcases Go.Deep.open_int_rows Try.underlying26 Try.underlying34 Try.underlying5 (by kernel_rfl) (by kernel_rfl) h with ⟨hcs, _⟩ | ⟨a2, len, cap2, A, L, C, Z, hcs, _⟩
  · simp only [List.cons.injEq, and_true] at hcs
    rw [e] at hcs
    injection hcs
  · simp only [List.cons.injEq, and_true] at hcs
    rw [e] at hcs
    injection hcs with h2
    rw [hn] at h2
    cases h2

/-- Block g holds slices that read as these, and more room. -/
structure Bo (B : Nat) (w : World) (g : Nat) (ls : Rws) : Prop where
  low : B ≤ g
  row : ∃ cs, w.heap[g]? = some (.cells cs 34 (0, 0)) ∧ ls.length ≤ cs.size ∧ ∀ i (h : i < ls.length), ∃ a c, cs[i]? = some (.slice a ls[i].length c) ∧ Rw B w a c ls[i]
theorem Bo.lt {B : Nat} {w : World} {g : Nat} {ls : Rws} (h : Bo B w g ls) : g < w.heap.size := by
  obtain ⟨cs, e, _⟩ := h.row
  exact (Array.getElem?_eq_some_iff.1 e).1
theorem Bo.other {B : Nat} {w : World} {g : Nat} {ls : Rws} (h : Bo B w g ls) : Other B w g := by
  obtain ⟨cs, e, _⟩ := h.row
  exact ⟨h.low, cs, _, _, e, by decide⟩
theorem Bo.cell {B : Nat} {w : World} {g : Nat} {ls : Rws} (h : Bo B w g ls) {i : Nat} (hi : i < ls.length) : ∃ a c, w.cell? ⟨g, i, none⟩ = some (.slice a ls[i].length c) ∧ Sl w a c ls[i] := by
  obtain ⟨cs, e, _, hr⟩ := h.row
  obtain ⟨a, c, e1, e2⟩ := hr i hi
  exact ⟨a, c, by rw [cell_of_block e]; exact e1, e2.sl⟩
theorem Bo.loose {B : Nat} {w : World} {g : Nat} {ls : Rws} (h : Bo B w g ls) (i : Nat) : w.frozen? ⟨g, i, none⟩ = false := by
  obtain ⟨cs, e, _⟩ := h.row
  exact unfrozen_of_block e i
theorem Bo.below {B : Nat} {w w' : World} {g : Nat} {ls : Rws} (h : Bo B w g ls) (k : Below w.heap.size w w') : Bo B w' g ls := by
  have hlt := h.lt
  obtain ⟨cs, e, hl, hr⟩ := h.row
  refine ⟨h.low, cs, (k.block g hlt).trans e, hl, fun i hi => ?_⟩
  obtain ⟨a, c, e1, e2⟩ := hr i hi
  exact ⟨a, c, e1, e2.below k⟩
theorem Bo.set {B : Nat} {w : World} {g : Nat} {ls : Rws} (h : Bo B w g ls) {i : Nat} (hi : i < ls.length) {a : Option Addr} {c : Nat} {x : List Nat} (hx : Rw B w a c x) : Bo B (w.setCell ⟨g, i, none⟩ (.slice a x.length c)) g (ls.set i x) := by
  have hk : Keep B w (w.setCell ⟨g, i, none⟩ (.slice a x.length c)) := (Keep.refl B w).set (p := ⟨g, i, none⟩) h.other _
  obtain ⟨cs, e, hl, hr⟩ := h.row
  refine ⟨h.low, cs.setIfInBounds i (.slice a x.length c), block_setCell e _, by simp; exact hl, fun j hj => ?_⟩
  rw [List.length_set] at hj
  by_cases e2 : j = i
  · subst e2
    exact ⟨a, c, by simp [show j < cs.size by omega], by simpa using hx.keep hk⟩
  · obtain ⟨a', c', e1, e3⟩ := hr j hj
    refine ⟨a', c', ?_, ?_⟩
    · rw [Array.getElem?_setIfInBounds_ne (Ne.symm e2), e1, List.getElem_set_ne (Ne.symm e2)]
    · rw [List.getElem_set_ne (Ne.symm e2)]; exact e3.keep hk
theorem Bo.set_below {B : Nat} {a w : World} {g : Nat} {ls : Rws} (h : Bo B w g ls) (k : Below B a w) (i : Nat) (u : Value) : Below B a (w.setCell ⟨g, i, none⟩ u) := k.setCell (p := ⟨g, i, none⟩) h.low _
/-- The slice itself. -/
def BoV (B : Nat) (w : World) (a : Option Addr) (ls : Rws) : Prop := ls = [] ∨ ∃ g, a = some ⟨g, 0, none⟩ ∧ Bo B w g ls
theorem BoV.below {B : Nat} {w w' : World} {a : Option Addr} {ls : Rws} (h : BoV B w a ls) (k : Below w.heap.size w w') : BoV B w' a ls :=
  h.imp id fun ⟨g, e, hb⟩ => ⟨g, e, hb.below k⟩
theorem boV_some {B : Nat} {w : World} {a : Option Addr} {ls : Rws} (h : BoV B w a ls) {i : Nat} (hi : i < ls.length) : ∃ g, a = some ⟨g, 0, none⟩ ∧ Bo B w g ls := by
  rcases h with rfl | h
  · simp at hi
  · exact h

theorem own_slc {w : World} {B e s n : Nat} {v : Value} {xs : List Value} (h : w.ownsRow B e s v n xs) : ∃ a c, v = .slice a n c := by
  rcases h.2 with ⟨rfl, rfl⟩ | ⟨g, cap, cur, rfl, _⟩
  · exact ⟨none, 0, rfl⟩
  · exact ⟨_, cap, rfl⟩
/-- All rows are appended to an empty slice. -/
theorem wpList_board {ops : Array Oper} {rest : List Oper} {o : Oper} {a : Act} {Q : Exit → Act → World → Prop} (w : World) (hgd : o.guard = none) (s x : Operand)
    (ho : o.op = .call { callee := .builtin .append, args := #[s, x], argTypes := #[26, 26] })
    (B : Nat) (g0 : Nat) (cs0 : Array Value) (hs : a.eval s = .slice (some ⟨g0, 0, none⟩) 0 0) (hg0 : w.heap[g0]? = some (.cells cs0 34 (0, 0))) (hc0 : cs0.size = 0) (hBg : B ≤ g0)
    (aa : Option Addr) (cap : Nat) (rows : Rws) (hx : a.eval x = .slice aa rows.length cap) (hnil : aa = none → cap = 0) (hrs : Rs B w aa cap rows) (hB : B ≤ w.heap.size) (hlen : rows.length ≤ 1000)
    (h : ∀ (ba : Option Addr) (bc : Nat) (w' : World), Hid (BoV B w' ba rows) → Hid (Below B w w') → Hid (rows.length ≤ bc ∧ bc ≤ maxLen) → wpList Try.prog ops Q rest (a.put o.dst (.slice ba rows.length bc)) w') : wpList Try.prog ops Q (o :: rest) a w := by
  obtain ⟨i0, hi, hz0, hz1, hz2⟩ := info_parts infoR
  have hown : w.ownsRow B 34 1 (.slice (some ⟨g0, 0, none⟩) 0 0) 0 [] := ⟨by simp, .inr ⟨g0, 0, cs0, rfl, hBg, hg0, Nat.zero_le _, by simp, by simp [hc0], by simp⟩⟩
  by_cases h0 : rows = []
  · subst h0
    cases aa with
    | none =>
      have hcap := hnil rfl
      subst hcap
      refine wpList_append_own_none hgd s x 26 ho B 34 i0 1 Try.underlying26 hi (.slice (some ⟨g0, 0, none⟩) 0 0) 0 [] hs hown hx ?_
      exact h (some ⟨g0, 0, none⟩) 0 w (.inl rfl) (Below.refl _ _) ⟨by simp, by simp⟩
    | some ad =>
      refine wpList_append_own_at w hgd s x 26 ho B 34 i0 (.slice none 0 0) 1 24 Try.underlying26 hi hz0 hz1 hz2 rfl (by decide) _ 0 [] hs hown ad 0 cap [] hx rfl (by simp) (by simp) (by unfold maxLen; omega) (by omega) hB ?_
      intro v' w' h1 h2 _ h5
      obtain ⟨ba, bc, rfl⟩ := own_slc h1
      have hb : Below B w w' := ⟨h2.os, h2.tape, h2.output, h2.size, fun b hb => h2.block b (by omega) fun e => by
        have e2 : b = g0 := by simpa [Value.ownBlock] using e
        omega⟩
      refine h ba bc w' (.inl rfl) hb ?_
      rcases h1.2 with ⟨e1, _⟩ | ⟨g, c, cur, e1, _, _, e4, e5, _⟩
      · injection e1 with _ _ e1; subst e1; exact ⟨by simp, by simp⟩
      · injection e1 with _ _ e1; subst e1; exact ⟨e4, e5⟩
  · obtain ⟨b, off, hab, hbB, hr⟩ := hrs.here.resolve_left h0
    subst hab
    obtain ⟨f, hf⟩ := Go.Deep.choose_lt (α := Option Addr × Nat) (p := fun i v => ∃ hi : i < rows.length, w.cell? ⟨b, off + i, none⟩ = some (.slice v.1 rows[i].length v.2) ∧ Rw B w v.1 v.2 rows[i]) (n := rows.length) fun i hi => by
      obtain ⟨a', c', e1, e2⟩ := hr i hi
      exact ⟨(a', c'), hi, e1, e2⟩
    have hadd : ∀ r, (⟨b, off, none⟩ : Addr).add r = ⟨b, off + r, none⟩ := fun r => by
      by_cases r0 : r = 0
      · subst r0; simp [Addr.add]
      · simp [Addr.add, r0]
    have hnews : ∀ j u, ((List.range rows.length).map fun i => Value.slice (f i).1 (rows.getD i []).length (f i).2)[j]? = some u → w.cell? ((⟨b, off, none⟩ : Addr).add j) = some u := fun j u hu => by
      by_cases hj : j < rows.length
      · obtain ⟨_, e1, _⟩ := hf j hj
        rw [hadd, e1]
        simp [hj] at hu
        rw [← hu]
      · simp [hj] at hu
    refine wpList_append_own_at w hgd s x 26 ho B 34 i0 (.slice none 0 0) 1 24 Try.underlying26 hi hz0 hz1 hz2 rfl (by decide) _ 0 [] hs hown ⟨b, off, none⟩ rows.length cap _ hx (by simp) hnews (fun u hu => by
      obtain ⟨i, _, rfl⟩ := List.mem_map.1 hu
      rfl) (by unfold maxLen; omega) (by omega) hB ?_
    intro v' w' h1 h2 _ h5
    have hlp : 0 < rows.length := List.length_pos_iff.2 h0
    rcases h1.2 with ⟨_, e1⟩ | ⟨g, c, cur, e1, e2, e3, e4, e5, e6, e7⟩
    · omega
    · rw [Nat.zero_add] at e1 e4 e7
      subst e1
      have hb : Below B w w' := ⟨h2.os, h2.tape, h2.output, h2.size, fun b' hb => h2.block b' (by omega) fun e => by
        have e2 : b' = g0 := by simpa [Value.ownBlock] using e
        omega⟩
      have hk : Keep B w w' := (Keep.refl B w).grown h2 fun b' hb' => by
        have e2 : g0 = b' := by simpa [Value.ownBlock] using hb'
        subst e2
        exact ⟨hBg, cs0, _, _, hg0, by decide⟩
      refine h (some ⟨g, 0, none⟩) c w' (.inr ⟨g, rfl, e2, cur, e3, by omega, fun i hi' => ?_⟩) hb ⟨e4, e5⟩
      obtain ⟨_, _, q2⟩ := hf i hi'
      refine ⟨(f i).1, (f i).2, ?_, q2.keep hk⟩
      have e8 : (cur.toList.take (rows.length * 1))[i]? = cur[i]? := by rw [List.getElem?_take_of_lt (by omega), Array.getElem?_toList]
      rw [← e8, e7]
      simp [hi']
end Go.Proofs.Ytahkjimbmapofaa
