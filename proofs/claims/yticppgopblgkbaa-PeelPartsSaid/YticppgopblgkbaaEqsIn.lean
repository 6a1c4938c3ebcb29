/-
  Equations (slices of slices of cells) that came in.
-/
import Derived.Test.YticppgopblgkbaaBytes
import Derived.SizedLaws
import Derived.Deep.Slices
namespace Go.Proofs.Yticppgopblgkbaa
open Go.ChangeShapes Go.WideShapes Go.ChangeAt Go.RowKit Go.Joins
set_option linter.unusedVariables false

/-- Cells as they come in: any place, any number. -/
abbrev Cz := List (Int × Nat)
abbrev Eqz := List Cz
/-- The slice '.slice a l.length cap' reads as these cells, wherever they lie. -/
structure Cr (w : World) (a : Option Addr) (cap : Nat) (l : Cz) : Prop where
  rng : ∀ x ∈ l, -9223372036854775808 ≤ x.1 ∧ x.1 ≤ 9223372036854775807 ∧ x.2 < 256
  len : l.length ≤ cap
  most : cap ≤ maxLen
  none : a = none → l = [] ∧ cap = 0
  here : l = [] ∨ ∃ b off, a = some ⟨b, off, Option.none⟩ ∧ b < w.heap.size ∧ ∀ i (h : i < l.length), w.cell? ⟨b, off + i * 2, Option.none⟩ = some (.int .i64 l[i].1) ∧ w.cell? ⟨b, off + i * 2 + 1, Option.none⟩ = some (.int .u8 ((l[i].2 : Nat) : Int))
theorem Cr.lt {w : World} {a : Option Addr} {cap : Nat} {l : Cz} (h : Cr w a cap l) : l.length ≤ 9223372036854775807 := by
  have h1 := h.len; have h2 := h.most; unfold maxLen at h2; omega
theorem Cr.some {w : World} {a : Option Addr} {cap : Nat} {l : Cz} (h : Cr w a cap l) {k : Nat} (hk : k < l.length) :
    ∃ b off, a = some ⟨b, off, Option.none⟩ ∧ b < w.heap.size ∧ ∀ i (h : i < l.length), w.cell? ⟨b, off + i * 2, Option.none⟩ = some (.int .i64 l[i].1) ∧ w.cell? ⟨b, off + i * 2 + 1, Option.none⟩ = some (.int .u8 ((l[i].2 : Nat) : Int)) := by
  rcases h.here with rfl | r
  · simp at hk
  · exact r
theorem Cr.below {w w' : World} {a : Option Addr} {cap : Nat} {l : Cz} (h : Cr w a cap l) (k : Below w.heap.size w w') : Cr w' a cap l :=
  ⟨h.rng, h.len, h.most, h.none, by
    rcases h.here with e | ⟨b, off, e, hb, hc⟩
    · exact .inl e
    · exact .inr ⟨b, off, e, Nat.lt_of_lt_of_le hb k.size, fun i hi => by
        rw [k.cell (p := ⟨b, off + i * 2, Option.none⟩) hb, k.cell (p := ⟨b, off + i * 2 + 1, Option.none⟩) hb]; exact hc i hi⟩⟩

/-- The slice '.slice a es.length cap' reads as these equations. -/
structure Er (w : World) (a : Option Addr) (cap : Nat) (es : Eqz) : Prop where
  len : es.length ≤ cap
  most : cap ≤ maxLen
  none : a = none → es = [] ∧ cap = 0
  here : es = [] ∨ ∃ b off, a = some ⟨b, off, Option.none⟩ ∧ b < w.heap.size ∧ ∀ i (h : i < es.length), ∃ a' c', w.cell? ⟨b, off + i, Option.none⟩ = some (.slice a' es[i].length c') ∧ Cr w a' c' es[i]
theorem Er.lt {w : World} {a : Option Addr} {cap : Nat} {es : Eqz} (h : Er w a cap es) : es.length ≤ 9223372036854775807 := by
  have h1 := h.len; have h2 := h.most; unfold maxLen at h2; omega
theorem Er.some {w : World} {a : Option Addr} {cap : Nat} {es : Eqz} (h : Er w a cap es) {k : Nat} (hk : k < es.length) :
    ∃ b off, a = some ⟨b, off, Option.none⟩ ∧ b < w.heap.size ∧ ∀ i (h : i < es.length), ∃ a' c', w.cell? ⟨b, off + i, Option.none⟩ = some (.slice a' es[i].length c') ∧ Cr w a' c' es[i] := by
  rcases h.here with rfl | r
  · simp at hk
  · exact r
theorem Er.below {w w' : World} {a : Option Addr} {cap : Nat} {es : Eqz} (h : Er w a cap es) (k : Below w.heap.size w w') : Er w' a cap es :=
  ⟨h.len, h.most, h.none, by
    rcases h.here with e | ⟨b, off, e, hb, hc⟩
    · exact .inl e
    · exact .inr ⟨b, off, e, Nat.lt_of_lt_of_le hb k.size, fun i hi => by
        obtain ⟨a', c', e1, e2⟩ := hc i hi
        exact ⟨a', c', by rw [k.cell (p := ⟨b, off + i, Option.none⟩) hb]; exact e1, e2.below k⟩⟩⟩

section
variable {H : Type} {enc : TypeId × Value → H} {w : World} {base : Nat} {spare : Nat → Bool} {held : Bool}

theorem cellsP : Try.prog.cellsOf 38 = 2 := by kernel_rfl
set_option maxRecDepth 100000 in
theorem cell_in {fuel : Nat} {cs : List Value} {y : DataW H × List MemPlace} (h : DataW.trod enc Try.prog w base spare held fuel 38 cs = some y) :
    ∃ (z : Int) (c : Nat), cs = [.int .i64 z, .int .u8 (c : Int)] ∧ -9223372036854775808 ≤ z ∧ z ≤ 9223372036854775807 ∧ c < 256 := by
  obtain ⟨xs, n, _, hy, hlen, hxl, hf⟩ := DataW.trod_struct Try.underlying38 h
  have hlen2 : cs.length = 2 := hlen.trans cellsP
  match cs, hlen2 with
  | [c0, c1], _ =>
    match xs, hxl with
    | [y0, y1], _ =>
      have f0 : DataW.trod enc Try.prog w base spare held n 3 [c0] = some y0 := hf 0 _ rfl
      have f1 : DataW.trod enc Try.prog w base spare held n 5 [c1] = some y1 := hf 1 _ rfl
      obtain ⟨z, e0, r0, wz⟩ := DataW.trod_int Try.underlying3 f0
      obtain ⟨k, e1, r1, wk⟩ := DataW.trod_int Try.underlying5 f1
      simp only [List.cons.injEq, and_true] at e0 e1
      subst e0 e1
      have hz : -9223372036854775808 ≤ z ∧ z ≤ 9223372036854775807 := by simpa [Lit.wf, IntKind.min, IntKind.max, IntKind.signed, IntKind.bits] using wz
      have hk : 0 ≤ k ∧ k ≤ 255 := by simpa [Lit.wf, IntKind.min, IntKind.max, IntKind.signed, IntKind.bits] using wk
      obtain ⟨K, rfl⟩ : ∃ K : Nat, k = (K : Int) := ⟨k.toNat, by omega⟩
      exact ⟨z, K, rfl, hz.1, hz.2, by omega⟩

/-- Cells that came in. -/
theorem cells_in {fuel : Nat} {c : Value} {x : DataW H × List MemPlace} (h : DataW.trod enc Try.prog w base spare held fuel 35 [c] = some x) :
    ∃ a cap l, c = .slice a l.length cap ∧ Cr w a cap l := by
  rcases DataW.trod_slice Try.underlying35 h with ⟨hcs, hx⟩ | ⟨a, len, cap, elems, rest, n, _, hcs, hx, hb, hl, hm, hlen, hel, _, _⟩
  · simp only [List.cons.injEq, and_true] at hcs
    exact ⟨none, 0, [], hcs, ⟨fun x hx => (by cases hx), by simp, by unfold maxLen; omega, fun _ => ⟨rfl, rfl⟩, .inl rfl⟩⟩
  · simp only [List.cons.injEq, and_true] at hcs
    obtain ⟨f, hf⟩ := Go.Deep.choose_lt (α := Int × Nat) (p := fun i v => (-9223372036854775808 ≤ v.1 ∧ v.1 ≤ 9223372036854775807 ∧ v.2 < 256) ∧ w.cell? ((a.add (i * 2)).add 0) = some (.int .i64 v.1) ∧ w.cell? ((a.add (i * 2)).add 1) = some (.int .u8 ((v.2 : Nat) : Int))) (n := len) fun i hi => by
      have h1 := hel i hi
      rw [cellsP] at h1
      have hie : i < elems.length := by omega
      rw [List.getElem?_eq_getElem hie] at h1
      obtain ⟨cs, hcs1, hcs2⟩ := Option.bind_eq_some_iff.1 h1
      obtain ⟨z, c, rfl, h2, h3, h4⟩ := cell_in hcs2
      obtain ⟨_, _, hc⟩ := World.cells?_some hcs1
      exact ⟨(z, c), ⟨h2, h3, h4⟩, hc 0 (by omega), hc 1 (by omega)⟩
    have hll : ((List.range len).map f).length = len := by simp
    refine ⟨some a, cap, (List.range len).map f, by rw [hll]; exact hcs, ⟨fun x hx => ?_, by rw [hll]; exact hl, hm, fun e => (by cases e), ?_⟩⟩
    · obtain ⟨i, hi, rfl⟩ := List.mem_map.1 hx
      exact (hf i (List.mem_range.1 hi)).1
    · by_cases h0 : len = 0
      · exact .inl (List.length_eq_zero_iff.1 (by rw [hll]; exact h0))
      · obtain ⟨b, off, spot⟩ := a
        have hc0 := (hf 0 (by omega)).2.1
        have hc0' : w.cell? (⟨b, off, spot⟩ : Addr) = some (.int .i64 (f 0).1) := by simpa [Addr.add] using hc0
        have hspot : spot = none := World.cell?_spot hc0'
        subst hspot
        have hadd : ∀ r j, ((⟨b, off, none⟩ : Addr).add r).add j = ⟨b, off + r + j, none⟩ := fun r j => by
          by_cases r0 : r = 0 <;> by_cases j0 : j = 0
          · subst r0; subst j0; simp [Addr.add]
          · subst r0; simp [Addr.add, j0]
          · subst j0; simp [Addr.add, r0]
          · simp [Addr.add, r0, j0]
        refine .inr ⟨b, off, rfl, World.block_lt_of_cell? w _ hc0', fun i hi => ?_⟩
        have hi2 : i < len := by rw [hll] at hi; exact hi
        have hgi : ((List.range len).map f)[i] = f i := by simp
        rw [hgi]
        have hc := (hf i hi2).2
        simp only [hadd] at hc
        exact ⟨hc.1, hc.2⟩

/-- Equations that came in. -/
theorem eqs_at {t : TypeId} (ht : Try.prog.underlying t = some (.slice 35)) {fuel : Nat} {c : Value} {x : DataW H × List MemPlace} (h : DataW.trod enc Try.prog w base spare held fuel t [c] = some x) :
    ∃ a cap es, c = .slice a es.length cap ∧ Er w a cap es := by
  rcases Go.Deep.open_slice1 ht (by kernel_rfl) h with ⟨hcs, _⟩ | ⟨a, len, cap, m, n, V, D, Pl, hcs, hb, hl, hm, hmm, _, hx⟩
  · simp only [List.cons.injEq, and_true] at hcs
    exact ⟨none, 0, [], hcs, ⟨by simp, by unfold maxLen; omega, fun _ => ⟨rfl, rfl⟩, .inl rfl⟩⟩
  · simp only [List.cons.injEq, and_true] at hcs
    have hlm : len ≤ m := by rw [hmm]; split <;> omega
    obtain ⟨f, hf⟩ := Go.Deep.choose_lt (α := Cz) (p := fun i v => ∃ a' c', w.cell? (a.add i) = some (.slice a' v.length c') ∧ Cr w a' c' v) (n := len) fun i hi => by
      obtain ⟨h1, h2⟩ := hx i (by omega)
      obtain ⟨a', c', l, e, hr⟩ := cells_in h2
      exact ⟨l, a', c', by rw [h1, e], hr⟩
    have hll : ((List.range len).map f).length = len := by simp
    refine ⟨some a, cap, (List.range len).map f, by rw [hll]; exact hcs, ⟨by rw [hll]; exact hl, hm, fun e => (by cases e), ?_⟩⟩
    by_cases h0 : len = 0
    · exact .inl (List.length_eq_zero_iff.1 (by rw [hll]; exact h0))
    · obtain ⟨b, off, spot⟩ := a
      obtain ⟨a0, c0, hc0, _⟩ := hf 0 (by omega)
      have hc0' : w.cell? (⟨b, off, spot⟩ : Addr) = some (.slice a0 (f 0).length c0) := by simpa [Addr.add] using hc0
      have hspot : spot = none := World.cell?_spot hc0'
      subst hspot
      have hadd : ∀ r, (⟨b, off, none⟩ : Addr).add r = ⟨b, off + r, none⟩ := fun r => by
        by_cases r0 : r = 0
        · subst r0; simp [Addr.add]
        · simp [Addr.add, r0]
      refine .inr ⟨b, off, rfl, World.block_lt_of_cell? w _ hc0', fun i hi => ?_⟩
      have hi2 : i < len := by rw [hll] at hi; exact hi
      have hgi : ((List.range len).map f)[i] = f i := by simp
      rw [hgi]
      obtain ⟨a', c', e1, e2⟩ := hf i hi2
      rw [hadd] at e1
      exact ⟨a', c', e1, e2⟩
end

/-! Whether they are equations. -/

/-- The first k cells are of n unknowns, with numbers, and each place stands once. -/
def EqOk (n : Int) (l : Cz) : Prop := (∀ c ∈ l, 0 ≤ c.1 ∧ c.1 < n ∧ c.2 ≠ 0) ∧ (l.map Prod.fst).Nodup
instance (n : Int) (l : Cz) : Decidable (EqOk n l) := by unfold EqOk; infer_instance
theorem EqOk.nil (n : Int) : EqOk n [] := ⟨fun _ h => (by cases h), List.nodup_nil⟩
theorem eqOk_snoc {n : Int} {l : Cz} {c : Int × Nat} : EqOk n (l ++ [c]) ↔ EqOk n l ∧ (0 ≤ c.1 ∧ c.1 < n ∧ c.2 ≠ 0) ∧ ∀ d ∈ l, d.1 ≠ c.1 := by
  unfold EqOk
  rw [List.map_append, List.nodup_append]
  constructor
  · rintro ⟨h1, h2, _, h3⟩
    refine ⟨⟨fun d hd => h1 d (by simp [hd]), h2⟩, h1 c (by simp), fun d hd => ?_⟩
    exact h3 d.1 (List.mem_map_of_mem hd) c.1 (by simp)
  · rintro ⟨⟨h1, h2⟩, h3, h4⟩
    refine ⟨fun d hd => ?_, h2, by simp, fun x hx y hy => ?_⟩
    · rcases List.mem_append.1 hd with hd | hd
      · exact h1 d hd
      · obtain rfl : d = c := by simpa using hd
        exact h3
    · obtain ⟨d, hd, rfl⟩ := List.mem_map.1 hx
      obtain rfl : y = c.1 := by simpa using hy
      exact h4 d hd
theorem eqOk_next {n : Int} {l : Cz} {k : Nat} (h : k < l.length) : EqOk n (l.take (k + 1)) ↔ EqOk n (l.take k) ∧ (0 ≤ l[k].1 ∧ l[k].1 < n ∧ l[k].2 ≠ 0) ∧ ∀ j, (hj : j < k) → l[j].1 ≠ l[k].1 := by
  rw [List.take_succ_eq_append_getElem h, eqOk_snoc]
  refine and_congr_right fun _ => and_congr_right fun _ => ⟨fun h1 j hj => ?_, fun h1 d hd => ?_⟩
  · have hjt : j < (l.take k).length := by rw [List.length_take]; omega
    have := h1 (l.take k)[j] (List.getElem_mem hjt)
    rwa [List.getElem_take] at this
  · obtain ⟨j, hj, rfl⟩ := List.getElem_of_mem hd
    rw [List.getElem_take]
    exact h1 j (by rw [List.length_take] at hj; omega)
theorem EqOk.take {n : Int} {l : Cz} (h : EqOk n l) (k : Nat) : EqOk n (l.take k) :=
  ⟨fun c hc => h.1 c (List.mem_of_mem_take hc), by rw [List.map_take]; exact h.2.sublist (List.take_sublist _ _)⟩
/-- Equations of n unknowns. -/
def RightP (es : Eqz) (n : Int) : Prop := 0 ≤ n ∧ n ≤ 256 ∧ es.length ≤ 1000 ∧ ∀ l ∈ es, EqOk n l
instance (es : Eqz) (n : Int) : Decidable (RightP es n) := by unfold RightP; infer_instance
end Go.Proofs.Yticppgopblgkbaa
