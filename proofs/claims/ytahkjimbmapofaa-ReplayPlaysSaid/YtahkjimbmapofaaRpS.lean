/-
  A schedule that came in.
-/
import Derived.Test.YtahkjimbmapofaaRpA
import Derived.SizedLaws
import Derived.Deep.Slices
import Derived.Lib.SmallJoins
namespace Go.Proofs.Ytahkjimbmapofaa
open Go.ChangeShapes Go.WideShapes Go.ChangeAt Go.RowKit Go.Joins
set_option linter.unusedVariables false

theorem Dri.below {w w' : World} {a : Option Addr} {cap : Nat} {D : Dk} (h : Dri w a cap D) (k : Below w.heap.size w w') : Dri w' a cap D :=
  ⟨h.rng, h.len, h.most, h.none, by
    rcases h.here with e | ⟨b, off, e, hb, hc⟩
    · exact .inl e
    · exact .inr ⟨b, off, e, Nat.lt_of_lt_of_le hb k.size, fun i hi => by
        obtain ⟨h0, h1, h2⟩ := hc i hi
        exact ⟨(k.cell (p := ⟨b, off + i * 3, Option.none⟩) hb).trans h0, (k.cell (p := ⟨b, off + i * 3 + 1, Option.none⟩) hb).trans h1, (k.cell (p := ⟨b, off + i * 3 + 2, Option.none⟩) hb).trans h2⟩⟩⟩
theorem dri_one {w : World} {a : Option Addr} {cap : Nat} {D : Dk} (h : Dri w a cap D) {i : Nat} (hi : i < D.length) : ∃ b off, a = some ⟨b, off, none⟩ ∧ b < w.heap.size ∧ w.cell? ⟨b, off + i * 3, none⟩ = some (.int .i64 D[i].1) ∧ w.cell? ⟨b, off + i * 3 + 1, none⟩ = some (.int .i64 D[i].2.1) ∧ w.cell? ⟨b, off + i * 3 + 2, none⟩ = some (.int .u8 ((D[i].2.2 : Nat) : Int)) := by
  rcases h.here with rfl | ⟨b, off, e, hb, hc⟩
  · simp at hi
  · exact ⟨b, off, e, hb, hc i hi⟩

section
variable {H : Type} {enc : TypeId × Value → H} {w : World} {base : Nat} {spare : Nat → Bool} {held : Bool}

theorem cellsDeed : Try.prog.cellsOf 33 = 3 := by kernel_rfl
set_option maxRecDepth 100000 in
theorem deed_in {fuel : Nat} {cs : List Value} {y : DataW H × List MemPlace} (h : DataW.trod enc Try.prog w base spare held fuel 33 cs = some y) :
    ∃ (z z' : Int) (c : Nat), cs = [.int .i64 z, .int .i64 z', .int .u8 (c : Int)] ∧ -9223372036854775808 ≤ z ∧ z ≤ 9223372036854775807 ∧ -9223372036854775808 ≤ z' ∧ z' ≤ 9223372036854775807 ∧ c < 256 := by
  obtain ⟨xs, n, _, hy, hlen, hxl, hf⟩ := DataW.trod_struct Try.underlying33 h
  have hlen2 : cs.length = 3 := hlen.trans cellsDeed
  match cs, hlen2 with
  | [c0, c1, c2], _ =>
    match xs, hxl with
    | [y0, y1, y2], _ =>
      have f0 : DataW.trod enc Try.prog w base spare held n 3 [c0] = some y0 := hf 0 _ rfl
      have f1 : DataW.trod enc Try.prog w base spare held n 3 [c1] = some y1 := hf 1 _ rfl
      have f2 : DataW.trod enc Try.prog w base spare held n 5 [c2] = some y2 := hf 2 _ rfl
      obtain ⟨z, e0, r0, wz⟩ := DataW.trod_int Try.underlying3 f0
      obtain ⟨z', e1, r1, wz'⟩ := DataW.trod_int Try.underlying3 f1
      obtain ⟨k, e2, r2, wk⟩ := DataW.trod_int Try.underlying5 f2
      simp only [List.cons.injEq, and_true] at e0 e1 e2
      subst e0 e1 e2
      have hz : -9223372036854775808 ≤ z ∧ z ≤ 9223372036854775807 := by simpa [Lit.wf, IntKind.min, IntKind.max, IntKind.signed, IntKind.bits] using wz
      have hz' : -9223372036854775808 ≤ z' ∧ z' ≤ 9223372036854775807 := by simpa [Lit.wf, IntKind.min, IntKind.max, IntKind.signed, IntKind.bits] using wz'
      have hk : 0 ≤ k ∧ k ≤ 255 := by simpa [Lit.wf, IntKind.min, IntKind.max, IntKind.signed, IntKind.bits] using wk
      obtain ⟨K, rfl⟩ : ∃ K : Nat, k = (K : Int) := ⟨k.toNat, by omega⟩
      exact ⟨z, z', K, rfl, hz.1, hz.2, hz'.1, hz'.2, by omega⟩

/-- Deeds that came in. -/
theorem deeds_in {fuel : Nat} {c : Value} {x : DataW H × List MemPlace} (h : DataW.trod enc Try.prog w base spare held fuel 22 [c] = some x) :
    ∃ a cap l, c = .slice a l.length cap ∧ Dri w a cap l := by
  rcases DataW.trod_slice Try.underlying22 h with ⟨hcs, hx⟩ | ⟨a, len, cap, elems, rest, n, _, hcs, hx, hb, hl, hm, hlen, hel, _, _⟩
  · simp only [List.cons.injEq, and_true] at hcs
    exact ⟨none, 0, [], hcs, ⟨fun x hx => (by cases hx), by simp, by unfold maxLen; omega, fun _ => ⟨rfl, rfl⟩, .inl rfl⟩⟩
  · simp only [List.cons.injEq, and_true] at hcs
    obtain ⟨f, hf⟩ := Go.Deep.choose_lt (α := Int × Int × Nat) (p := fun i v => (-9223372036854775808 ≤ v.1 ∧ v.1 ≤ 9223372036854775807 ∧ -9223372036854775808 ≤ v.2.1 ∧ v.2.1 ≤ 9223372036854775807 ∧ v.2.2 < 256) ∧ w.cell? ((a.add (i * 3)).add 0) = some (.int .i64 v.1) ∧ w.cell? ((a.add (i * 3)).add 1) = some (.int .i64 v.2.1) ∧ w.cell? ((a.add (i * 3)).add 2) = some (.int .u8 ((v.2.2 : Nat) : Int))) (n := len) fun i hi => by
      have h1 := hel i hi
      rw [cellsDeed] at h1
      have hie : i < elems.length := by omega
      rw [List.getElem?_eq_getElem hie] at h1
      obtain ⟨cs, hcs1, hcs2⟩ := Option.bind_eq_some_iff.1 h1
      obtain ⟨z, z', c, rfl, h2, h3, h4, h5, h6⟩ := deed_in hcs2
      obtain ⟨_, _, hc⟩ := World.cells?_some hcs1
      exact ⟨(z, z', c), ⟨h2, h3, h4, h5, h6⟩, hc 0 (by omega), hc 1 (by omega), hc 2 (by omega)⟩
    have hll : ((List.range len).map f).length = len := by simp
    refine ⟨some a, cap, (List.range len).map f, by rw [hll]; exact hcs, ⟨fun x hx => ?_, by rw [hll]; exact hl, hm, fun e => (by cases e), ?_⟩⟩
    · obtain ⟨i, hi, rfl⟩ := List.mem_map.1 hx
      exact (hf i (List.mem_range.1 hi)).1
    · by_cases h0 : len = 0
      · exact .inl (List.length_eq_zero_iff.1 (by rw [hll]; exact h0))
      · obtain ⟨b, off, spot⟩ := a
        have hc0 := (hf 0 (by omega)).2.1
        have hc0' : w.cell? (⟨b, off, spot⟩ : Addr) = some (.int .i64 (f 0).1) := by simpa [Addr.add] using hc0
        have hspot : spot = none := World.cell?_spot hc0'
        subst hspot
        have hadd : ∀ r j, ((⟨b, off, none⟩ : Addr).add r).add j = ⟨b, off + r + j, none⟩ := fun r j => by
          by_cases r0 : r = 0 <;> by_cases j0 : j = 0
          · subst r0; subst j0; simp [Addr.add]
          · subst r0; simp [Addr.add, j0]
          · subst j0; simp [Addr.add, r0]
          · simp [Addr.add, r0, j0]
        refine .inr ⟨b, off, rfl, World.block_lt_of_cell? w _ hc0', fun i hi => ?_⟩
        have hi2 : i < len := by rw [hll] at hi; exact hi
        have hgi : ((List.range len).map f)[i] = f i := by simp
        rw [hgi]
        obtain ⟨_, e0, e1, e2⟩ := hf i hi2
        rw [hadd] at e0 e1 e2
        exact ⟨by simpa using e0, by simpa using e1, by simpa using e2⟩
/-- A schedule. -/
theorem sched_in {r : Reach} {b0 : Nat} {v : Value} {d : DataW H} {p : List MemPlace} (hv : Value.okWide Try.prog w r b0 25 v) (h : DataW.Trod enc Try.prog w base spare held 25 v d p) :
    ∃ da dc D wa wc Wh, v = .agg #[.slice da D.length dc, .slice wa Wh.length wc] ∧ Dri w da dc D ∧ Is w wa wc Wh := by
  obtain ⟨v0, v1, y0, y1, n, rfl, _, _, h0, h1⟩ := open_agg2 Try.underlying25 (by kernel_rfl) (by kernel_rfl) hv h
  obtain ⟨da, dc, D, rfl, hD⟩ := deeds_in h0
  obtain ⟨wa, wc, Wh, rfl, hW⟩ := ints_in h1
  exact ⟨da, dc, D, wa, wc, Wh, rfl, hD, hW⟩
end
end Go.Proofs.Ytahkjimbmapofaa
