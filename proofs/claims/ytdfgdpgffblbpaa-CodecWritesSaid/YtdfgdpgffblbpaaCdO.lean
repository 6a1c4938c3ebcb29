/-
  Package codec: an Out in memory; what is put.
-/
import Derived.Test.YtdfgdpgffblbpaaCdC
import Derived.Test.YtdfgdpgffblbpaaCloneB
namespace Go.Proofs.Ytdfgdpgffblbpaa
open Go.ChangeShapes Go.WideShapes Go.ChangeAt Go.RowKit Go.Joins
set_option linter.unusedVariables false

theorem Sl.of_block {w w' : World} {a : Option Addr} {c : Nat} {l : List Nat} (h : Sl w a c l) (k : ∀ p, a = Option.some p → l ≠ [] → w'.heap[p.block]? = w.heap[p.block]?) : Sl w' a c l := by
  refine ⟨h.byte, h.len, h.most, h.none, ?_⟩
  by_cases e : l = []
  · exact .inl e
  · rcases h.here with e' | ⟨b, off, e1, hb⟩
    · exact .inl e'
    · exact .inr ⟨b, off, e1, hb.of_block (by have := k _ e1 e; exact this)⟩
theorem Sl.blk {w : World} {a : Option Addr} {c : Nat} {l : List Nat} (h : Sl w a c l) (p : Addr) (hp : a = Option.some p) (hl : l ≠ []) : p.block < w.heap.size := by
  obtain ⟨b, off, e, hb⟩ := h.some (List.length_pos_iff.2 hl)
  rw [e] at hp
  cases hp
  exact World.block_lt_of_cell? w _ (hb 0 (List.length_pos_iff.2 hl))

/-- Pieces, the newest first, all of them and their bytes in blocks that Y names. -/
def Chain (Y : Nat → Prop) (w : World) : List (List Nat) → Option Addr → Prop
  | [], p => p = none
  | x :: L, p => ∃ g a c p', p = some ⟨g, 0, none⟩ ∧ Y g ∧ w.heap[g]? = some (.cells #[.pointer p', .slice a x.length c] 54 (0, 0)) ∧ Sl w a c x ∧ x ≠ [] ∧ (∀ q, a = some q → Y q.block) ∧ Chain Y w L p'
theorem Chain.keep {Y : Nat → Prop} {w w' : World} (k : ∀ j, Y j → w'.heap[j]? = w.heap[j]?) : ∀ {L : List (List Nat)} {p : Option Addr}, Chain Y w L p → Chain Y w' L p
  | [], p, h => h
  | x :: L, p, ⟨g, a, c, p', h1, h2, h3, h4, h5, h6, h7⟩ => ⟨g, a, c, p', h1, h2, (k g h2).trans h3, h4.of_block fun q hq _ => k _ (h6 q hq), h5, h6, Chain.keep k h7⟩
theorem Chain.mono {Y Z : Nat → Prop} {w : World} (k : ∀ j, Y j → Z j) : ∀ {L : List (List Nat)} {p : Option Addr}, Chain Y w L p → Chain Z w L p
  | [], p, h => h
  | x :: L, p, ⟨g, a, c, p', h1, h2, h3, h4, h5, h6, h7⟩ => ⟨g, a, c, p', h1, k g h2, h3, h4, h5, fun q hq => k _ (h6 q hq), Chain.mono k h7⟩
theorem Chain.few {Y : Nat → Prop} {w : World} : ∀ {L : List (List Nat)} {p : Option Addr}, Chain Y w L p → L.length ≤ L.reverse.flatten.length
  | [], p, h => by simp
  | x :: L, p, ⟨g, a, c, p', h1, h2, h3, h4, h5, h6, h7⟩ => by
    have h := Chain.few h7
    have hx : 0 < x.length := List.length_pos_iff.2 h5
    rw [List.reverse_cons, List.flatten_append, List.length_append]
    simp only [List.length_cons, List.flatten_cons, List.flatten_nil, List.append_nil]
    omega
theorem Chain.bytes {Y : Nat → Prop} {w : World} : ∀ {L : List (List Nat)} {p : Option Addr}, Chain Y w L p → ∀ x ∈ L, IsByte x
  | [], p, h, x, hx => by cases hx
  | y :: L, p, ⟨g, a, c, p', h1, h2, h3, h4, h5, h6, h7⟩, x, hx => by
    rcases List.mem_cons.1 hx with rfl | hx
    · exact h4.byte
    · exact Chain.bytes h7 x hx

/-- The block b is an Out that has got the bytes s (none: it is spoilt), q of them at most, all of it in blocks that X names. -/
def OutAt (X : Nat → Prop) (w : World) (b : Nat) (s : Option (List Nat)) (q : Nat) : Prop :=
  X b ∧ (∀ k, X k → k < w.heap.size) ∧ ∃ p, w.heap[b]? = some (.cells #[.pointer p, .bool s.isNone] 27 (0, 0)) ∧
    ∀ l, s = some l → l.length ≤ q ∧ ∃ Y L, ¬ Y b ∧ (∀ k, Y k → X k) ∧ Chain Y w L p ∧ L.reverse.flatten = l
theorem OutAt.zero (w : World) : OutAt (fun k => k = w.heap.size) (w.alloc (.cells outZ 27)) w.heap.size (some []) 0 := by
  have h0 : (w.alloc (.cells outZ 27)).heap[w.heap.size]? = some (.cells outZ 27 (0, 0)) := heap_alloc_last w _
  refine ⟨rfl, fun k hk => ?_, none, h0, fun l hl => ?_⟩
  · subst hk
    exact (Array.getElem?_eq_some_iff.1 h0).1
  · cases hl
    exact ⟨Nat.le_refl _, fun _ => False, [], id, fun _ h => h.elim, rfl, rfl⟩
theorem OutAt.keep {X Y : Nat → Prop} {w w' : World} {b : Nat} {s : Option (List Nat)} {q : Nat} (h : OutAt X w b s q) (k : Fr Y w w') (hx : ∀ j, X j → ¬ Y j) : OutAt X w' b s q := by
  obtain ⟨h1, h2, p, h3, h4⟩ := h
  refine ⟨h1, fun j hj => Nat.lt_of_lt_of_le (h2 j hj) k.size, p, (k.block b (h2 b h1) (hx b h1)).trans h3, fun l hl => ?_⟩
  obtain ⟨h5, Z, L, h6, h7, h8, h9⟩ := h4 l hl
  exact ⟨h5, Z, L, h6, h7, h8.keep fun j hj => k.block j (h2 j (h7 j hj)) (hx j (h7 j hj)), h9⟩
theorem OutAt.mono {X : Nat → Prop} {w : World} {b : Nat} {s : Option (List Nat)} {q q' : Nat} (h : OutAt X w b s q) (hq : q ≤ q') : OutAt X w b s q' := by
  obtain ⟨h1, h2, p, h3, h4⟩ := h
  refine ⟨h1, h2, p, h3, fun l hl => ?_⟩
  obtain ⟨h5, h6⟩ := h4 l hl
  exact ⟨by omega, h6⟩
theorem OutAt.spoil {X : Nat → Prop} {w : World} {b : Nat} {s : Option (List Nat)} {q q' : Nat} (h : OutAt X w b s q) : OutAt X ((w.setCell ⟨b, 0, none⟩ (.pointer none)).setCell ⟨b, 1, none⟩ (.bool true)) b none q' := by
  obtain ⟨h1, h2, p, h3, h4⟩ := h
  refine ⟨h1, fun k hk => by simpa using h2 k hk, none, ?_, fun l hl => by cases hl⟩
  have e1 := Joins.block_setCell (i := 0) h3 (.pointer none)
  have e2 := Joins.block_setCell (i := 1) e1 (.bool true)
  simpa using e2
theorem OutAt.frame {X : Nat → Prop} {w : World} {b : Nat} {s : Option (List Nat)} {q : Nat} (h : OutAt X w b s q) (i : Nat) (u : Value) {v : World} (k : Fr X w v) : Fr X w (v.setCell ⟨b, i, none⟩ u) := k.set (p := ⟨b, i, none⟩) (fun _ => h.1) u

/-- A piece more. -/
theorem OutAt.add {X : Nat → Prop} {w : World} {b : Nat} {s l : List Nat} {q : Nat} {p a : Option Addr} {c : Nat} (h : OutAt X w b (some s) q) (hp : w.heap[b]? = some (.cells #[.pointer p, .bool false] 27 (0, 0))) (hs : Sl w a c l) (hl : l ≠ []) (hb : ∀ r, a = some r → r.block ≠ b) :
    OutAt (fun k => X k ∨ k = w.heap.size ∨ ∃ r, a = some r ∧ k = r.block) ((w.alloc (.cells #[.pointer p, .slice a l.length c] 54)).setCell ⟨b, 0, none⟩ (.pointer (some ⟨w.heap.size, 0, none⟩))) b (some (s ++ l)) (q + l.length) := by
  obtain ⟨h1, h2, p', h3, h4⟩ := h
  have hbl := h2 b h1
  have hpp : p' = p := by
    rw [h3] at hp
    simpa using hp
  subst hpp
  have e0 : (w.alloc (.cells #[.pointer p', .slice a l.length c] 54)).heap[w.heap.size]? = some (.cells #[.pointer p', .slice a l.length c] 54 (0, 0)) := heap_alloc_last w _
  have hold : ∀ k, k < w.heap.size → k ≠ b → ((w.alloc (.cells #[.pointer p', .slice a l.length c] 54)).setCell ⟨b, 0, none⟩ (.pointer (some ⟨w.heap.size, 0, none⟩))).heap[k]? = w.heap[k]? := fun k hk hne => by
    rw [Below.heap_setCell _ _ _ _ hne, Below.heap_alloc _ _ _ hk]
  have hsz : w.heap.size < (w.alloc (.cells #[.pointer p', .slice a l.length c] 54)).heap.size := (Array.getElem?_eq_some_iff.1 e0).1
  have hblk : ∀ r, a = some r → r.block < w.heap.size := fun r hr => hs.blk r hr hl
  refine ⟨.inl h1, fun k hk => ?_, some ⟨w.heap.size, 0, none⟩, ?_, fun l' hl' => ?_⟩
  · rw [World.size_setCell]
    rcases hk with hk | rfl | ⟨r, hr, rfl⟩
    · exact Nat.lt_trans (h2 k hk) hsz
    · exact hsz
    · exact Nat.lt_trans (hblk r hr) hsz
  · have e1 : (w.alloc (.cells #[.pointer p', .slice a l.length c] 54)).heap[b]? = _ := (Below.heap_alloc _ _ _ hbl).trans h3
    simpa using Joins.block_setCell (i := 0) e1 (.pointer (some ⟨w.heap.size, 0, none⟩))
  · cases hl'
    obtain ⟨h5, Y, L, h6, h7, h8, h9⟩ := h4 s rfl
    refine ⟨by rw [List.length_append]; omega, fun k => Y k ∨ k = w.heap.size ∨ ∃ r, a = some r ∧ k = r.block, l :: L, ?_, fun k hk => hk.imp (h7 k) id, ?_, ?_⟩
    · rintro (h | h | ⟨r, hr, h⟩)
      · exact h6 h
      · omega
      · exact hb r hr h.symm
    · refine ⟨w.heap.size, a, c, p', rfl, .inr (.inl rfl), ?_, hs.of_block fun r hr _ => hold _ (hblk r hr) (hb r hr), hl, fun r hr => .inr (.inr ⟨r, hr, rfl⟩), ?_⟩
      · rw [Below.heap_setCell _ _ _ _ (show w.heap.size ≠ b by omega)]; exact e0
      · refine (h8.keep fun j hj => hold j (h2 j (h7 j hj)) fun e => h6 (e ▸ hj)).mono fun j hj => .inl hj
    · rw [List.reverse_cons, List.flatten_append, h9]
      simp
end Go.Proofs.Ytdfgdpgffblbpaa
