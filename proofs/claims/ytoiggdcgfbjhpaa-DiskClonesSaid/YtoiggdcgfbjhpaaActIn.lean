/-
  Lists of acts that came in, opened.
-/
import Derived.Test.YtoiggdcgfbjhpaaDskLt
import Derived.SizedLaws
namespace Go.Proofs.Ytoiggdcgfbjhpaa
open Go.ChangeShapes Go.WideShapes Go.ChangeAt Go.RowKit Go.Joins
set_option linter.unusedVariables false

section
variable {H : Type} {enc : TypeId × Value → H} {w : World} {base : Nat} {spare : Nat → Bool} {held : Bool}

theorem bytes_in2 {fuel : Nat} {c : Value} {x : DataW H × List MemPlace} (h : DataW.trod enc Try.prog w base spare held fuel 30 [c] = some x) :
    ∃ a cap l, c = .slice a l.length cap ∧ Sl w a cap l ∧ ((∀ n ∈ DataW.weights Try.prog 30 x.1, n ≤ reachBytes) → l.length ≤ 140737488351232) := by
  obtain ⟨a, cap, l, e, hs⟩ := bytes_in h
  refine ⟨a, cap, l, e, hs, fun hw => ?_⟩
  rcases open_ints Try.underlying30 Try.underlying5 cells8 h with ⟨hcs, hx⟩ | ⟨a', len, cap', zs, hcs, _, hl, hm, hz, hx, hcell, hwz⟩
  · simp only [List.cons.injEq, and_true] at hcs
    rw [e] at hcs
    injection hcs with _ h2 _
    omega
  · simp only [List.cons.injEq, and_true] at hcs
    rw [e] at hcs
    injection hcs with _ h2 _
    subst hx
    have := hw (((lits (H := H) .u8 (zs.take len)).length + (lits (H := H) .u8 (zs.drop len)).length) * Try.prog.bytesOf 5) (by simp [DataW.weights, Try.underlying30])
    rw [show Try.prog.bytesOf 5 = 1 from by kernel_rfl] at this
    have hr : reachBytes = 140737488351232 := rfl
    have hlz : len ≤ zs.length := by rw [hz]; split <;> omega
    simp [lits] at this
    omega
theorem cellsInt : Try.prog.cellsOf 3 = 1 := by kernel_rfl
theorem ks_in {fuel : Nat} {c : Value} {x : DataW H × List MemPlace} (h : DataW.trod enc Try.prog w base spare held fuel 31 [c] = some x) :
    ∃ a cap l, c = .slice a l.length cap ∧ Ks w a cap l ∧ ((∀ n ∈ DataW.weights Try.prog 31 x.1, n ≤ reachBytes) → l.length ≤ 140737488351232) := by
  rcases open_ints Try.underlying31 Try.underlying3 cellsInt h with ⟨hcs, hx⟩ | ⟨a, len, cap, zs, hcs, _, hl, hm, hz, hx, hcell, hwz⟩
  · simp only [List.cons.injEq, and_true] at hcs
    exact ⟨none, 0, [], hcs, ⟨by simp, by simp, by unfold maxLen; omega, fun _ => rfl, .inl rfl⟩, fun _ => Nat.zero_le _⟩
  · simp only [List.cons.injEq, and_true] at hcs
    have hlz : len ≤ zs.length := by rw [hz]; split <;> omega
    have hll : (zs.take len).length = len := by simp; omega
    refine ⟨some a, cap, zs.take len, by rw [hll]; exact hcs, ⟨fun n hn => ?_, by omega, hm, fun e => (by cases e), ?_⟩, fun hw => ?_⟩
    · have := hwz n (List.mem_of_mem_take hn)
      simpa [Lit.wf, IntKind.min, IntKind.max, IntKind.signed, IntKind.bits] using this
    · by_cases h0 : len = 0
      · exact .inl (List.length_eq_zero_iff.1 (by omega))
      · obtain ⟨b, off, spot⟩ := a
        have hc0 := hcell 0 (by omega)
        have hspot : spot = none := by simpa [Addr.add] using World.cell?_spot hc0
        subst hspot
        refine .inr ⟨b, off, rfl, fun i hi => ?_⟩
        have hi2 : i < len := by omega
        have hci := hcell i (by omega)
        have e : zs.getD i 0 = (zs.take len)[i] := by simp [List.getD, show i < zs.length by omega]
        rw [e] at hci
        rw [← hci]
        by_cases hi0 : i = 0
        · subst hi0; simp [Addr.add]
        · simp [Addr.add, hi0]
    · subst hx
      have := hw (((lits (H := H) .i64 (zs.take len)).length + (lits (H := H) .i64 (zs.drop len)).length) * Try.prog.bytesOf 3) (by simp [DataW.weights, Try.underlying31])
      rw [show Try.prog.bytesOf 3 = 8 from by kernel_rfl] at this
      have hr : reachBytes = 140737488351232 := rfl
      simp [lits] at this
      omega

set_option maxRecDepth 100000 in
theorem act_in {fuel : Nat} {cs : List Value} {y : DataW H × List MemPlace} (h : DataW.trod enc Try.prog w base spare held fuel 33 cs = some y) (hw : ∀ n ∈ DataW.weights Try.prog 33 y.1, n ≤ reachBytes) :
    ∃ x : ActV, cs = x.vals ∧ ActOk w x := by
  obtain ⟨xs, n, _, hy, hlen, hxl, hf⟩ := DataW.trod_struct Try.underlying33 h
  have hlen6 : cs.length = 6 := hlen.trans (by kernel_rfl)
  match cs, hlen6 with
  | [c0, c1, c2, c3, c4, c5], _ =>
    match xs, hxl with
    | [y0, y1, y2, y3, y4, y5], _ =>
      have f0 : DataW.trod enc Try.prog w base spare held n 5 [c0] = some y0 := hf 0 _ rfl
      have f1 : DataW.trod enc Try.prog w base spare held n 9 [c1] = some y1 := hf 1 _ rfl
      have f2 : DataW.trod enc Try.prog w base spare held n 9 [c2] = some y2 := hf 2 _ rfl
      have f3 : DataW.trod enc Try.prog w base spare held n 3 [c3] = some y3 := hf 3 _ rfl
      have f4 : DataW.trod enc Try.prog w base spare held n 30 [c4] = some y4 := hf 4 _ rfl
      have f5 : DataW.trod enc Try.prog w base spare held n 31 [c5] = some y5 := hf 5 _ rfl
      obtain ⟨k, e0, r0, wk⟩ := DataW.trod_int Try.underlying5 f0
      obtain ⟨a, e1, r1, wa⟩ := DataW.trod_string Try.underlying9 f1
      obtain ⟨b, e2, r2, wb⟩ := DataW.trod_string Try.underlying9 f2
      obtain ⟨m, e3, r3, wm⟩ := DataW.trod_int Try.underlying3 f3
      obtain ⟨da, dc, zs, rfl, L4, W4⟩ := bytes_in2 f4
      obtain ⟨ka, kc, ks, rfl, L5, W5⟩ := ks_in f5
      simp only [List.cons.injEq, and_true] at e0 e1 e2 e3
      subst e0 e1 e2 e3
      have hk : 0 ≤ k ∧ k ≤ 255 := by simpa [Lit.wf, IntKind.min, IntKind.max, IntKind.signed, IntKind.bits] using wk
      have hm : -9223372036854775808 ≤ m ∧ m ≤ 9223372036854775807 := by simpa [Lit.wf, IntKind.min, IntKind.max, IntKind.signed, IntKind.bits] using wm
      obtain ⟨K, rfl⟩ : ∃ K : Nat, k = (K : Int) := ⟨k.toNat, by omega⟩
      have hy1 : y.1 = .agg [y0.1, y1.1, y2.1, y3.1, y4.1, y5.1] := by rw [hy]; rfl
      have hww : DataW.weights Try.prog 33 y.1 = DataW.weights Try.prog 5 y0.1 ++ (DataW.weights Try.prog 9 y1.1 ++ (DataW.weights Try.prog 9 y2.1 ++ (DataW.weights Try.prog 3 y3.1 ++ (DataW.weights Try.prog 30 y4.1 ++ (DataW.weights Try.prog 31 y5.1 ++ []))))) := by
        rw [hy1]
        simp [DataW.weights, DataW.weightsEach, Try.underlying33]
      rw [hww] at hw
      have hr : reachBytes = 140737488351232 := rfl
      have s1 : a.data.toList.length = a.size := Array.length_toList
      have s2 : b.data.toList.length = b.size := Array.length_toList
      have h1 := hw a.data.toList.length (by rw [r1]; simp [DataW.weights])
      have h2 := hw b.data.toList.length (by rw [r2]; simp [DataW.weights])
      have h4 := W4 fun q hq => hw q (by simp [hq])
      have h5 := W5 fun q hq => hw q (by simp [hq])
      exact ⟨⟨K, a, b, m, da, dc, zs, ka, kc, ks⟩, rfl, ⟨by show K < 256; omega, by show a.size ≤ _; omega, by show b.size ≤ _; omega, hm.1, hm.2, L4, L5, h4, h5⟩⟩

theorem weights_mem {e : TypeId} : ∀ {l : List (DataW H)} {d : DataW H}, d ∈ l → ∀ n ∈ DataW.weights Try.prog e d, n ∈ DataW.weightsAll Try.prog e l
  | x :: l, d, hd, n, hn => by
    simp only [DataW.weightsAll, List.mem_append]
    rcases List.mem_cons.1 hd with rfl | hd
    · exact .inl hn
    · exact .inr (weights_mem hd n hn)

theorem cellsAct : Try.prog.cellsOf 33 = 6 := by kernel_rfl
set_option maxRecDepth 100000 in
/-- A list of acts that came in. -/
theorem acts_in {fuel : Nat} {c : Value} {x : DataW H × List MemPlace} (h : DataW.trod enc Try.prog w base spare held fuel 22 [c] = some x) (hw : ∀ n ∈ DataW.weights Try.prog 22 x.1, n ≤ reachBytes) :
    ∃ a cap l, c = .slice a l.length cap ∧ Acts w a cap l := by
  rcases DataW.trod_slice Try.underlying22 h with ⟨hcs, hx⟩ | ⟨a, len, cap, elems, rest, n, _, hcs, hx, hb, hl, hm, hlen, hel, _, _⟩
  · simp only [List.cons.injEq, and_true] at hcs
    exact ⟨none, 0, [], hcs, ⟨by simp, by unfold maxLen; omega, fun x hx => (by cases hx), .inl rfl⟩⟩
  · simp only [List.cons.injEq, and_true] at hcs
    have each : ∀ i, i < len → ∃ v : ActV, ActOk w v ∧ ∀ j, j < 6 → w.cell? ((a.add (i * 6)).add j) = v.vals[j]? := fun i hi => by
      have h1 := hel i hi
      rw [cellsAct] at h1
      have hie : i < elems.length := by omega
      rw [List.getElem?_eq_getElem hie] at h1
      obtain ⟨cs, hcs1, hcs2⟩ := Option.bind_eq_some_iff.1 h1
      obtain ⟨v, rfl, hv⟩ := act_in hcs2 fun q hq => hw q (by
        rw [hx]
        simp only [DataW.weights, Try.underlying22, List.mem_cons, List.mem_append]
        exact .inr (.inl (weights_mem (List.mem_map_of_mem (List.getElem_mem hie)) q hq)))
      obtain ⟨_, _, hc⟩ := World.cells?_some hcs1
      exact ⟨v, hv, hc⟩
    obtain ⟨f, hf⟩ := Classical.axiomOfChoice (r := fun (i : { i // i < len }) (v : ActV) => ActOk w v ∧ ∀ j, j < 6 → w.cell? ((a.add (i.1 * 6)).add j) = v.vals[j]?) (fun i => each i.1 i.2)
    have hll : ((List.range len).attach.map fun i => f ⟨i.1, List.mem_range.1 i.2⟩).length = len := by simp
    refine ⟨some a, cap, (List.range len).attach.map fun i => f ⟨i.1, List.mem_range.1 i.2⟩, by rw [hll]; exact hcs, ⟨by rw [hll]; exact hl, hm, fun v hv => ?_, ?_⟩⟩
    · obtain ⟨i, _, rfl⟩ := List.mem_map.1 hv
      exact (hf ⟨i.1, List.mem_range.1 i.2⟩).1
    · by_cases h0 : len = 0
      · exact .inl (List.length_eq_zero_iff.1 (by rw [hll]; exact h0))
      · obtain ⟨b, off, spot⟩ := a
        have hc0 := (hf ⟨0, by omega⟩).2 0 (by omega)
        have hc0' : w.cell? ((⟨b, off, spot⟩ : Addr).add 0) = some (.int .u8 ((f ⟨0, by omega⟩).kind : Int)) := by simpa [ActV.vals, Addr.add] using hc0
        have hspot : spot = none := by simpa [Addr.add] using World.cell?_spot hc0'
        subst hspot
        have hadd : ∀ r j, ((⟨b, off, none⟩ : Addr).add r).add j = ⟨b, off + r + j, none⟩ := fun r j => by
          by_cases r0 : r = 0 <;> by_cases j0 : j = 0
          · subst r0; subst j0; simp [Addr.add]
          · subst r0; simp [Addr.add, j0]
          · subst j0; simp [Addr.add, r0]
          · simp [Addr.add, r0, j0]
        refine .inr ⟨b, off, rfl, World.block_lt_of_cell? w _ hc0', fun i hi => ?_⟩
        have hi2 : i < len := by rw [hll] at hi; exact hi
        have hgi : ((List.range len).attach.map fun i => f ⟨i.1, List.mem_range.1 i.2⟩)[i] = f ⟨i, hi2⟩ := by simp
        rw [hgi]
        have hc := (hf ⟨i, hi2⟩).2
        simp only [hadd] at hc
        have q0 := hc 0 (by omega)
        have q1 := hc 1 (by omega)
        have q2 := hc 2 (by omega)
        have q3 := hc 3 (by omega)
        have q4 := hc 4 (by omega)
        have q5 := hc 5 (by omega)
        exact ⟨q0, q1, q2, q3, q4, q5⟩
end
end Go.Proofs.Ytoiggdcgfbjhpaa
