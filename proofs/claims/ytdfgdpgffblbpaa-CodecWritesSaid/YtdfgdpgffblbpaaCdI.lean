/-
  Items (law 13) that came in.
-/
import Derived.Test.YtdfgdpgffblbpaaBytesW
import Derived.Test.YtdfgdpgffblbpaaFr
import Derived.SizedLaws
import Derived.Deep.Slices
import Derived.Lib.SmallJoins
namespace Go.Proofs.Ytdfgdpgffblbpaa
open Go.ChangeShapes Go.WideShapes Go.ChangeAt Go.RowKit Go.Joins
set_option linter.unusedVariables false

/-- An item: its kind, number, size, bytes. -/
structure Itm where
  k : Nat
  v : Int
  n : Int
  b : List Nat
instance : Inhabited Itm := ⟨⟨0, 0, 0, []⟩⟩
/-- The four cells of an item. -/
def ItmAt (w : World) (p off : Nat) (x : Itm) : Prop := ∃ a c, w.cell? ⟨p, off, none⟩ = some (.int .u8 (x.k : Int)) ∧ w.cell? ⟨p, off + 1, none⟩ = some (.int .i64 x.v) ∧ w.cell? ⟨p, off + 2, none⟩ = some (.int .i64 x.n) ∧ w.cell? ⟨p, off + 3, none⟩ = some (.slice a x.b.length c) ∧ Sl w a c x.b
theorem ItmAt.below {w w' : World} {p off : Nat} {x : Itm} (h : ItmAt w p off x) (k : Below w.heap.size w w') : ItmAt w' p off x := by
  obtain ⟨a, c, h0, h1, h2, h3, h4⟩ := h
  have hp : p < w.heap.size := World.block_lt_of_cell? w _ h0
  exact ⟨a, c, (k.cell (p := ⟨p, off, none⟩) hp).trans h0, (k.cell (p := ⟨p, off + 1, none⟩) hp).trans h1, (k.cell (p := ⟨p, off + 2, none⟩) hp).trans h2, (k.cell (p := ⟨p, off + 3, none⟩) hp).trans h3, h4.below k⟩
def ItmOk (x : Itm) : Prop := x.k < 256 ∧ (-9223372036854775808 ≤ x.v ∧ x.v ≤ 9223372036854775807) ∧ (-9223372036854775808 ≤ x.n ∧ x.n ≤ 9223372036854775807) ∧ x.b.length ≤ 140737488351232
/-- The slice '.slice a l.length cap' reads as these items. -/
structure Its (w : World) (a : Option Addr) (cap : Nat) (l : List Itm) : Prop where
  rng : ∀ x ∈ l, ItmOk x
  len : l.length ≤ cap
  most : cap ≤ maxLen
  here : l = [] ∨ ∃ b off, a = some ⟨b, off, none⟩ ∧ b < w.heap.size ∧ ∀ i (h : i < l.length), ItmAt w b (off + i * 4) l[i]
theorem Its.below {w w' : World} {a : Option Addr} {cap : Nat} {l : List Itm} (h : Its w a cap l) (k : Below w.heap.size w w') : Its w' a cap l :=
  ⟨h.rng, h.len, h.most, by
    rcases h.here with e | ⟨b, off, e, hb, hc⟩
    · exact .inl e
    · exact .inr ⟨b, off, e, Nat.lt_of_lt_of_le hb k.size, fun i hi => (hc i hi).below k⟩⟩
theorem its_one {w : World} {a : Option Addr} {cap : Nat} {l : List Itm} (h : Its w a cap l) {i : Nat} (hi : i < l.length) : ∃ b off, a = some ⟨b, off, none⟩ ∧ b < w.heap.size ∧ ItmAt w b (off + i * 4) l[i] := by
  rcases h.here with rfl | ⟨b, off, e, hb, hc⟩
  · simp at hi
  · exact ⟨b, off, e, hb, hc i hi⟩
theorem Its.lt {w : World} {a : Option Addr} {cap : Nat} {l : List Itm} (h : Its w a cap l) : l.length ≤ 9223372036854775807 := by
  have h1 := h.len; have h2 := h.most; unfold maxLen at h2; omega

section
variable {H : Type} {enc : TypeId × Value → H} {w : World} {base : Nat}

theorem cellsItm : Try.prog.cellsOf 30 = 4 := by kernel_rfl
set_option maxRecDepth 100000 in
theorem itm_in {fuel : Nat} {held : Bool} {cs : List Value} {y : DataW H × List MemPlace} (h : DataW.trod enc Try.prog w base (fun _ => true) held fuel 30 cs = some y) (hw : ∀ n ∈ DataW.weights Try.prog 30 y.1, n ≤ reachBytes) :
    ∃ (x : Itm) (a : Option Addr) (c : Nat), cs = [.int .u8 (x.k : Int), .int .i64 x.v, .int .i64 x.n, .slice a x.b.length c] ∧ ItmOk x ∧ Sl w a c x.b := by
  obtain ⟨xs, n, _, hy, hlen, hxl, hf⟩ := DataW.trod_struct Try.underlying30 h
  have hlen2 : cs.length = 4 := hlen.trans cellsItm
  match cs, hlen2 with
  | [c0, c1, c2, c3], _ =>
    match xs, hxl with
    | [y0, y1, y2, y3], _ =>
      have f0 : DataW.trod enc Try.prog w base (fun _ => true) held n 5 [c0] = some y0 := hf 0 _ rfl
      have f1 : DataW.trod enc Try.prog w base (fun _ => true) held n 2 [c1] = some y1 := hf 1 _ rfl
      have f2 : DataW.trod enc Try.prog w base (fun _ => true) held n 3 [c2] = some y2 := hf 2 _ rfl
      have f3 : DataW.trod enc Try.prog w base (fun _ => true) held n 28 [c3] = some y3 := hf 3 _ rfl
      obtain ⟨k, e0, r0, wk⟩ := DataW.trod_int Try.underlying5 f0
      obtain ⟨z, e1, r1, wz⟩ := DataW.trod_int Try.underlying2 f1
      obtain ⟨z', e2, r2, wz'⟩ := DataW.trod_int Try.underlying3 f2
      obtain ⟨a, cap, l, e3, hs, W3⟩ := bytes_in2 f3
      simp only [List.cons.injEq, and_true] at e0 e1 e2
      subst e0 e1 e2 e3
      have hz : -9223372036854775808 ≤ z ∧ z ≤ 9223372036854775807 := by simpa [Lit.wf, IntKind.min, IntKind.max, IntKind.signed, IntKind.bits] using wz
      have hz' : -9223372036854775808 ≤ z' ∧ z' ≤ 9223372036854775807 := by simpa [Lit.wf, IntKind.min, IntKind.max, IntKind.signed, IntKind.bits] using wz'
      have hk : 0 ≤ k ∧ k ≤ 255 := by simpa [Lit.wf, IntKind.min, IntKind.max, IntKind.signed, IntKind.bits] using wk
      obtain ⟨K, rfl⟩ : ∃ K : Nat, k = (K : Int) := ⟨k.toNat, by omega⟩
      have hy1 : y.1 = .agg [y0.1, y1.1, y2.1, y3.1] := by rw [hy]; rfl
      have hww : DataW.weights Try.prog 30 y.1 = DataW.weights Try.prog 5 y0.1 ++ (DataW.weights Try.prog 2 y1.1 ++ (DataW.weights Try.prog 3 y2.1 ++ (DataW.weights Try.prog 28 y3.1 ++ []))) := by
        rw [hy1]
        simp [DataW.weights, DataW.weightsEach, Try.underlying30]
      rw [hww] at hw
      have h3 := W3 fun q hq => hw q (by simp [hq])
      exact ⟨⟨K, z, z', l⟩, a, cap, rfl, ⟨by show K < 256; omega, hz, hz', h3⟩, hs⟩

/-- Items that came in. -/
theorem items_in {fuel : Nat} {held : Bool} {c : Value} {x : DataW H × List MemPlace} (h : DataW.trod enc Try.prog w base (fun _ => true) held fuel 22 [c] = some x) (hw : ∀ n ∈ DataW.weights Try.prog 22 x.1, n ≤ reachBytes) :
    ∃ a cap l, c = .slice a l.length cap ∧ Its w a cap l := by
  rcases DataW.trod_slice Try.underlying22 h with ⟨hcs, hx⟩ | ⟨a, len, cap, elems, rest, n, _, hcs, hx, hb, hl, hm, hlen, hel, _, _⟩
  · simp only [List.cons.injEq, and_true] at hcs
    exact ⟨none, 0, [], hcs, ⟨fun x hx => (by cases hx), by simp, by unfold maxLen; omega, .inl rfl⟩⟩
  · simp only [List.cons.injEq, and_true] at hcs
    obtain ⟨f, hf⟩ := Go.Deep.choose_lt (α := Itm) (p := fun i v => ItmOk v ∧ ∃ a' c', w.cell? ((a.add (i * 4)).add 0) = some (.int .u8 (v.k : Int)) ∧ w.cell? ((a.add (i * 4)).add 1) = some (.int .i64 v.v) ∧ w.cell? ((a.add (i * 4)).add 2) = some (.int .i64 v.n) ∧ w.cell? ((a.add (i * 4)).add 3) = some (.slice a' v.b.length c') ∧ Sl w a' c' v.b) (n := len) fun i hi => by
      have h1 := hel i hi
      rw [cellsItm] at h1
      have hie : i < elems.length := by omega
      rw [List.getElem?_eq_getElem hie] at h1
      obtain ⟨cs, hcs1, hcs2⟩ := Option.bind_eq_some_iff.1 h1
      obtain ⟨z, a', c', rfl, h2, h3⟩ := itm_in hcs2 fun q hq => hw q (by
        rw [hx]
        simp only [DataW.weights, Try.underlying22, List.mem_cons, List.mem_append]
        exact .inr (.inl (weights_mem (List.mem_map_of_mem (List.getElem_mem hie)) q hq)))
      obtain ⟨_, _, hc⟩ := World.cells?_some hcs1
      exact ⟨z, h2, a', c', hc 0 (by omega), hc 1 (by omega), hc 2 (by omega), hc 3 (by omega), h3⟩
    have hll : ((List.range len).map f).length = len := by simp
    refine ⟨some a, cap, (List.range len).map f, by rw [hll]; exact hcs, ⟨fun x hx => ?_, by rw [hll]; exact hl, hm, ?_⟩⟩
    · obtain ⟨i, hi, rfl⟩ := List.mem_map.1 hx
      exact (hf i (List.mem_range.1 hi)).1
    · by_cases h0 : len = 0
      · exact .inl (List.length_eq_zero_iff.1 (by rw [hll]; exact h0))
      · obtain ⟨b, off, spot⟩ := a
        obtain ⟨_, a0, c0, hc0, _⟩ := hf 0 (by omega)
        have hc0' : w.cell? (⟨b, off, spot⟩ : Addr) = some (.int .u8 ((f 0).k : Int)) := by simpa [Addr.add] using hc0
        have hspot : spot = none := World.cell?_spot hc0'
        subst hspot
        have hadd : ∀ r j, ((⟨b, off, none⟩ : Addr).add r).add j = ⟨b, off + r + j, none⟩ := fun r j => by
          by_cases r0 : r = 0 <;> by_cases j0 : j = 0
          · subst r0; subst j0; simp [Addr.add]
          · subst r0; simp [Addr.add, j0]
          · subst j0; simp [Addr.add, r0]
          · simp [Addr.add, r0, j0]
        refine .inr ⟨b, off, rfl, World.block_lt_of_cell? w _ hc0', fun i hi => ?_⟩
        have hi2 : i < len := by rw [hll] at hi; exact hi
        have hgi : ((List.range len).map f)[i] = f i := by simp
        rw [hgi]
        obtain ⟨_, a', c', e0, e1, e2, e3, e4⟩ := hf i hi2
        rw [hadd] at e0 e1 e2 e3
        exact ⟨a', c', by simpa using e0, by simpa using e1, by simpa using e2, by simpa using e3, e4⟩
end

/-- Not too many, of not too many bytes. -/
def bulkI (l : List Itm) : Nat := (l.map fun x => x.b.length).sum
def fewI (l : List Itm) : Bool := decide (l.length ≤ 100) && decide (bulkI l ≤ 20000)
theorem fewI_iff {l : List Itm} : fewI l = true ↔ l.length ≤ 100 ∧ bulkI l ≤ 20000 := by simp [fewI]
theorem bulk_take {l : List Itm} {k : Nat} (h : k < l.length) : bulkI (l.take (k + 1)) = bulkI (l.take k) + l[k].b.length := by
  unfold bulkI
  rw [List.take_succ_eq_append_getElem h, List.map_append, List.sum_append]
  simp
theorem bulk_le (l : List Itm) (k : Nat) : bulkI (l.take k) ≤ bulkI l := by
  unfold bulkI
  conv => rhs; rw [← List.take_append_drop k l, List.map_append, List.sum_append]
  omega

set_option maxRecDepth 100000 in
set_option maxHeartbeats 1000000 in
theorem fewI_any (a : Option Addr) (cap : Nat) (l : List Itm) (w : World) (hs : Its w a cap l) :
    Calls Try.prog 7 #[.slice a l.length cap] w fun e w' => e = .returned (.bool (fewI l)) ∧ w = w' := by
  have HS := Lib.hid hs
  have hlm := hs.lt
  have h0 : Hid (bulkI (l.take 0) = 0) := rfl
  clear hs
  go_enter Try.func7, Try.ntmps7
  go_wp2_with fail
  go_loop [3, 7] (fun n i => ∃ k q : Nat, k ≤ l.length ∧ k ≤ 100 ∧ q ≤ 20000 ∧ n = .int .i64 q ∧ i = .int .i64 k ∧ Hid (bulkI (l.take k) = q)) (fun _ i => l.length - (intOf i).toNat)
  case atStart => exact ⟨0, 0, by omega, by omega, by omega, rfl, rfl, h0⟩
  case round =>
    obtain ⟨k, q, hk, hk100, hq, rfl, rfl, HT⟩ := hrel
    clear h0
    by_cases hlt : k < l.length
    · obtain ⟨b, off, rfl, hB, a', c', _, _, _, h3, hsl⟩ := its_one HS.out hlt
      have hkz : (k : Int) < (l.length : Int) := by omega
      have hlx := hsl.lt
      have hlx2 := (HS.out.rng _ (List.getElem_mem hlt)).2.2.2
      have HN := Lib.hid (bulk_take hlt)
      have HL := Lib.hid (bulk_le l (k + 1))
      have HK := Lib.hid (bulk_le l k)
      obtain ⟨m, hm⟩ : ∃ m, m = l[k].b.length := ⟨_, rfl⟩
      rw [← hm] at h3 hlx HN hlx2
      clear hm hsl
      by_cases h100 : 100 ≤ k
      · have HF : Hid (fewI l = false) := by
          show _ = _
          rw [Bool.eq_false_iff]
          intro h
          have := (fewI_iff.1 h).1
          omega
        have hd : decide ((100 : Int) ≤ (k : Int)) = true := by simp; omega
        go_wp2_with fail
        go_ret
        exact ⟨ret_bool HF.out.symm, rfl⟩
      · have hd : decide ((100 : Int) ≤ (k : Int)) = false := by simp; omega
        have hd2 : ¬ (100 : Int) ≤ (k : Int) := by omega
        by_cases hbig : 20000 < q + m
        · have HF : Hid (fewI l = false) := by
            show _ = _
            rw [Bool.eq_false_iff]
            intro h
            have h1 := (fewI_iff.1 h).2
            have h2 := HT.out
            have h3 := HN.out
            have h4 := HL.out
            omega
          have hd3 : decide ((20000 : Int) < (q : Int) + (m : Int)) = true := by simp; omega
          have hd4 : (20000 : Int) < (q : Int) + (m : Int) := by omega
          go_wp2_with fail
          go_ret
          exact ⟨ret_bool HF.out.symm, rfl⟩
        · have HX : Hid (bulkI (l.take (k + 1)) = q + m) := by
            show _ = _
            rw [HN.out, HT.out]
          have hd3 : decide ((20000 : Int) < (q : Int) + (m : Int)) = false := by simp; omega
          have hd4 : ¬ (20000 : Int) < (q : Int) + (m : Int) := by omega
          go_wp2_with fail
          go_round
          case rel => exact ⟨k + 1, q + m, by omega, by omega, by omega, by go_num, by go_num, HX⟩
          case measure => simp [intOf]; omega
    · obtain rfl : k = l.length := by omega
      have HF : Hid (fewI l = true) := by
        show _ = _
        rw [fewI_iff]
        have := HT.out
        rw [List.take_length] at this
        omega
      go_wp2_with fail
      go_ret
      exact ⟨ret_bool HF.out.symm, rfl⟩
end Go.Proofs.Ytdfgdpgffblbpaa
