/-
  Slices of slices of bytes in memory; what the document's Fill answers.
-/
import Derived.Test.YtdfgdpgffblbpaaRwsMath
import Derived.Laws.CopyOwn
import Derived.Laws.AppendOwn
import Derived.OwnWalk
namespace Go.Proofs.Ytdfgdpgffblbpaa
open Go.ChangeShapes Go.WideShapes Go.ChangeAt Go.RowKit Go.Joins
set_option linter.unusedVariables false

/-! A frame: blocks below a place, and blocks of bytes, stay. -/

def Byt (w : World) (k : Nat) : Prop := ∃ cs r, w.heap[k]? = some (.cells cs 5 r)
structure Keep (B : Nat) (w w' : World) : Prop where
  os : w'.os = w.os
  tape : w'.tape = w.tape
  output : w'.output = w.output
  size : w.heap.size ≤ w'.heap.size
  block : ∀ k, k < w.heap.size → (k < B ∨ Byt w k) → w'.heap[k]? = w.heap[k]?
theorem Keep.refl (B : Nat) (w : World) : Keep B w w := ⟨rfl, rfl, rfl, Nat.le_refl _, fun _ _ _ => rfl⟩
theorem Keep.byt {B : Nat} {w w' : World} (h : Keep B w w') {k : Nat} (hk : Byt w k) : Byt w' k := by
  obtain ⟨cs, r, e⟩ := hk
  have hlt := (Array.getElem?_eq_some_iff.1 e).1
  exact ⟨cs, r, by rw [h.block k hlt (.inr ⟨cs, r, e⟩)]; exact e⟩
theorem Keep.trans {B : Nat} {a b c : World} (h : Keep B a b) (k : Keep B b c) : Keep B a c :=
  ⟨k.os.trans h.os, k.tape.trans h.tape, k.output.trans h.output, Nat.le_trans h.size k.size, fun i hi hb => by
    rw [k.block i (Nat.lt_of_lt_of_le hi h.size) (hb.imp id h.byt)]
    exact h.block i hi hb⟩
theorem Keep.of_below {B : Nat} {w w' : World} (h : Below w.heap.size w w') : Keep B w w' := ⟨h.os, h.tape, h.output, h.size, fun k hk _ => h.block k hk⟩
theorem Keep.below {B : Nat} {w w' : World} (h : Keep B w w') (hB : B ≤ w.heap.size) : Below B w w' := ⟨h.os, h.tape, h.output, h.size, fun k hk => h.block k (by omega) (.inl hk)⟩
theorem Keep.drewN {B : Nat} {a w : World} (h : Keep B a w) (n : Nat) : Keep B a (w.drewN n) := ⟨h.os, h.tape, h.output, h.size, h.block⟩
theorem Keep.drew {B : Nat} {a w : World} (h : Keep B a w) : Keep B a w.drew := ⟨h.os, h.tape, h.output, h.size, h.block⟩
/-- Block g is memory of another kind, made since. -/
def Other (B : Nat) (w : World) (g : Nat) : Prop := B ≤ g ∧ ∃ cs t r, w.heap[g]? = some (.cells cs t r) ∧ t ≠ 5
theorem Other.not_byt {B : Nat} {w : World} {g : Nat} (h : Other B w g) : ¬ Byt w g := fun ⟨cs, r, e⟩ => by
  obtain ⟨_, cs', t, r', e', hne⟩ := h
  rw [e] at e'
  injection e' with e'
  injection e' with _ e2
  exact hne e2.symm
theorem Keep.set {B : Nat} {a w : World} (h : Keep B a w) {p : Addr} (hp : Other B w p.block) (u : Value) : Keep B a (w.setCell p u) :=
  h.trans ⟨rfl, rfl, rfl, by simp, fun k hk hb => by
    refine Below.heap_setCell _ _ _ _ fun e => ?_
    subst e
    rcases hb with hb | hb
    · have := hp.1; omega
    · exact hp.not_byt hb⟩
theorem Keep.alloc {B : Nat} {a w : World} (h : Keep B a w) (o : Obj) : Keep B a (w.alloc o) :=
  h.trans (Keep.of_below ((Below.refl _ _).alloc (Nat.le_refl _) _))
theorem Keep.grown {B : Nat} {a w w' : World} {row : Option Nat} (h : Keep B a w) (hg : w.grownBy w' row) (hr : ∀ g, row = some g → Other B w g) : Keep B a w' :=
  h.trans ⟨hg.os, hg.tape, hg.output, hg.size, fun k hk hb => by
    refine hg.block k hk fun e => ?_
    have := hr k e.symm
    rcases hb with hb | hb
    · have := this.1; omega
    · exact this.not_byt hb⟩
theorem Other.of_own {B : Nat} {w : World} {e : TypeId} {size n : Nat} {v : Value} {xs : List Value} (h : w.ownsRow B e size v n xs) (he : e ≠ 5) : ∀ g, v.ownBlock = some g → Other B w g := fun g hg => by
  rcases h.2 with ⟨rfl, _⟩ | ⟨g', cap, cur, rfl, hb, hh, _⟩
  · simp [Value.ownBlock] at hg
  · have : g' = g := by simpa [Value.ownBlock] using hg
    subst this
    exact ⟨hb, cur, e, (0, 0), hh, he⟩

/-- Bytes that stay: they lie below B, or in a block of bytes. -/
structure Rw (B : Nat) (w : World) (a : Option Addr) (cap : Nat) (l : List Nat) : Prop where
  sl : Sl w a cap l
  tag : l ≠ [] → ∀ p, a = some p → p.block < B ∨ Byt w p.block
theorem BytesIn.of_block {w w' : World} {b off : Nat} {l : List Nat} (h : BytesIn w b off l) (e : w'.heap[b]? = w.heap[b]?) : BytesIn w' b off l := fun i hi => by
  rw [World.cell?_of_block (w := w) (a := ⟨b, off + i, none⟩) e]; exact h i hi
theorem Rw.keep {B : Nat} {w w' : World} {a : Option Addr} {cap : Nat} {l : List Nat} (h : Rw B w a cap l) (k : Keep B w w') : Rw B w' a cap l := by
  refine ⟨⟨h.sl.byte, h.sl.len, h.sl.most, h.sl.none, ?_⟩, fun hl p hp => (h.tag hl p hp).imp id k.byt⟩
  rcases h.sl.here with e | ⟨b, off, e, hb⟩
  · exact .inl e
  · by_cases hl : l = []
    · exact .inl hl
    · refine .inr ⟨b, off, e, hb.of_block (k.block b ?_ (h.tag hl _ e))⟩
      have h0 : 0 < l.length := List.length_pos_iff.2 hl
      exact World.block_lt_of_cell? w _ (hb 0 h0)
theorem Rw.below {B : Nat} {w w' : World} {a : Option Addr} {cap : Nat} {l : List Nat} (h : Rw B w a cap l) (k : Below w.heap.size w w') : Rw B w' a cap l := h.keep (Keep.of_below k)
theorem Rw.of_new {B : Nat} {W w : World} {m : List Nat} (h : NewTo W w m m.length) (hb : IsByte m) (hm : m.length ≤ 1000000) : Rw B w (some ⟨W.heap.size, 0, none⟩) m.length m :=
  ⟨h.sl hb hm, fun _ p hp => by
    cases hp
    obtain ⟨cs, e, _⟩ := h.row
    exact .inr ⟨cs, (0, 0), e⟩⟩
theorem Rw.of_sl {w : World} {a : Option Addr} {cap : Nat} {l : List Nat} (h : Sl w a cap l) : Rw w.heap.size w a cap l :=
  ⟨h, fun hl p hp => by
    have h0 : 0 < l.length := List.length_pos_iff.2 hl
    obtain ⟨b, off, e, hb⟩ := h.some h0
    rw [e] at hp
    cases hp
    exact .inl (World.block_lt_of_cell? w _ (hb 0 h0))⟩

/-! Slices of slices. -/

/-- Cells from a place on hold slices that read as these. -/
def RowsIn (B : Nat) (w : World) (b off : Nat) (ls : Rws) : Prop := ∀ i (h : i < ls.length), ∃ a c, w.cell? ⟨b, off + i, none⟩ = some (.slice a ls[i].length c) ∧ Rw B w a c ls[i]
/-- The slice '.slice a ls.length cap' reads as ls. -/
structure Rs (B : Nat) (w : World) (a : Option Addr) (cap : Nat) (ls : Rws) : Prop where
  len : ls.length ≤ cap
  most : cap ≤ maxLen
  none : a = none → ls = []
  here : ls = [] ∨ ∃ b off, a = some ⟨b, off, Option.none⟩ ∧ b < B ∧ RowsIn B w b off ls
theorem Rs.byte {B : Nat} {w : World} {a : Option Addr} {cap : Nat} {ls : Rws} (h : Rs B w a cap ls) : ∀ x ∈ ls, IsByte x := fun x hx => by
  rcases h.here with rfl | ⟨b, off, _, _, hr⟩
  · simp at hx
  · obtain ⟨i, hi, rfl⟩ := List.getElem_of_mem hx
    obtain ⟨_, _, _, k⟩ := hr i hi
    exact k.sl.byte
theorem Rs.some {B : Nat} {w : World} {a : Option Addr} {cap : Nat} {ls : Rws} (h : Rs B w a cap ls) {k : Nat} (hk : k < ls.length) : ∃ b off, a = some ⟨b, off, Option.none⟩ ∧ b < B ∧ RowsIn B w b off ls := by
  rcases h.here with rfl | h
  · simp at hk
  · exact h
theorem RowsIn.below {B : Nat} {w w' : World} {b off : Nat} {ls : Rws} (h : RowsIn B w b off ls) (hb : b < B) (hB : B ≤ w.heap.size) (k : Keep B w w') : RowsIn B w' b off ls := fun i hi => by
  obtain ⟨a, c, h1, h2⟩ := h i hi
  refine ⟨a, c, ?_, h2.keep k⟩
  rw [(k.below hB).cell (p := ⟨b, off + i, none⟩) hb]; exact h1
theorem Rs.keep {B : Nat} {w w' : World} {a : Option Addr} {cap : Nat} {ls : Rws} (h : Rs B w a cap ls) (hB : B ≤ w.heap.size) (k : Keep B w w') : Rs B w' a cap ls :=
  ⟨h.len, h.most, h.none, h.here.imp id fun ⟨b, off, e, hb, hr⟩ => ⟨b, off, e, hb, hr.below hb hB k⟩⟩
theorem Rs.lt {B : Nat} {w : World} {a : Option Addr} {cap : Nat} {ls : Rws} (h : Rs B w a cap ls) : ls.length ≤ 9223372036854775807 := by
  have h1 := h.len
  have h2 := h.most
  unfold maxLen at h2
  omega
theorem nil_rs (B : Nat) (w : World) : Rs B w none 0 [] := ⟨Nat.zero_le _, by simp, fun _ => rfl, .inl rfl⟩

/-- A slice of slices that this call makes, by append. -/
def Own (B : Nat) (w : World) (v : Value) (ls : Rws) : Prop :=
  ∃ xs : List Value, w.ownsRow B 28 1 v ls.length xs ∧ ∀ i (h : i < ls.length), ∃ a c, xs[i]? = some (.slice a ls[i].length c) ∧ Rw B w a c ls[i]
theorem Own.nil (B : Nat) (w : World) : Own B w (.slice none 0 0) [] := ⟨[], World.ownsRow_nil _ _ _ _, by simp⟩
theorem Own.form {B : Nat} {w : World} {v : Value} {ls : Rws} (h : Own B w v ls) : ∃ a cap, v = .slice a ls.length cap ∧ cap ≤ maxLen ∧ ls.length ≤ cap ∧ (a = none → ls = []) ∧ (ls = [] ∨ ∃ b, a = some ⟨b, 0, none⟩ ∧ B ≤ b ∧ b < w.heap.size ∧ RowsIn B w b 0 ls) := by
  obtain ⟨xs, ho, hx⟩ := h
  rcases ho.2 with ⟨rfl, hn⟩ | ⟨g, cap, cur, rfl, hb, hh, h1, h2, h3, h4⟩
  · have : ls = [] := List.eq_nil_of_length_eq_zero hn
    subst this
    exact ⟨none, 0, rfl, by simp, by simp, fun _ => rfl, .inl rfl⟩
  · refine ⟨_, cap, rfl, h2, h1, fun e => (by cases e), .inr ⟨g, rfl, hb, (Array.getElem?_eq_some_iff.1 hh).1, fun i hi => ?_⟩⟩
    obtain ⟨a, c, e1, e2⟩ := hx i hi
    refine ⟨a, c, ?_, e2⟩
    have := ho.cells (g := g) rfl i _ e1
    by_cases hi0 : i = 0
    · subst hi0; simpa [Addr.add] using this
    · simpa [Addr.add, hi0] using this
/-- As seen by a call behind. -/
theorem Own.rs {B : Nat} {w : World} {v : Value} {ls : Rws} (h : Own B w v ls) : ∃ a cap, v = .slice a ls.length cap ∧ Rs w.heap.size w a cap ls := by
  obtain ⟨a, cap, e, h1, h2, h3, h4⟩ := h.form
  refine ⟨a, cap, e, h2, h1, h3, h4.imp id fun ⟨b, e', _, hlt, hr⟩ => ⟨b, 0, e', hlt, fun i hi => ?_⟩⟩
  obtain ⟨a', c', e1, e2⟩ := hr i hi
  exact ⟨a', c', e1, Rw.of_sl e2.sl⟩
theorem Own.keep {B : Nat} {w w' : World} {v : Value} {ls : Rws} (h : Own B w v ls) (k : Below w.heap.size w w') : Own B w' v ls := by
  obtain ⟨xs, ho, hx⟩ := h
  refine ⟨xs, ho.kept (row := none) ⟨k.os, k.tape, k.output, k.size, fun j hj _ => k.block j hj⟩ ?_, fun i hi => ?_⟩
  · cases hv : v.ownBlock with
    | none => exact .inl rfl
    | some g => exact .inr (by simp)
  · obtain ⟨a, c, e1, e2⟩ := hx i hi
    exact ⟨a, c, e1, e2.below k⟩

/-! Fill. -/

theorem fill_row (l : List Nat) (n : Nat) : (splice (rowArr n zV).toList 0 ((l.take n).map byteV)).toArray = rowArr n (vOf (fillN l n)) := by
  have hlen : (splice (rowArr n zV).toList 0 ((l.take n).map byteV)).length = n := by
    rw [length_splice _ _ _ (by simp [rowArr]; omega)]; simp [rowArr]
  apply Array.ext
  · rw [List.size_toArray, hlen, rowArr_size]
  · intro i h1 h2
    rw [rowArr_size] at h2
    have e1 : (rowArr n (vOf (fillN l n)))[i] = byteV (l.getD i 0) := by
      simp only [rowArr, List.getElem_toArray, List.getElem_map, List.getElem_range, vOf]
      rw [fillN_get l n i h2]
    rw [e1]
    simp only [List.getElem_toArray, splice, List.take_zero, List.nil_append, Nat.zero_add]
    by_cases hi : i < l.length
    · rw [List.getElem_append_left (by simp; omega)]
      rw [getD_get hi]; simp
    · rw [List.getElem_append_right (by simp; omega)]
      simp only [List.getElem_drop, rowArr, List.getElem_map, zV]
      rw [getD_high (by omega)]; rfl

theorem src_cells {w : World} {a : Option Addr} {cap : Nat} {l : List Nat} (h : Sl w a cap l) (n : Nat) (h0 : 0 < ((l.take n).map byteV).length) : ∃ ad, a = some ad ∧ ∀ j v, ((l.take n).map byteV)[j]? = some v → w.cell? (ad.add j) = some v := by
  have h1 : 0 < l.length := by simp at h0; omega
  obtain ⟨b, off, e, hb⟩ := h.some h1
  refine ⟨_, e, fun j v hv => ?_⟩
  have hj : j < l.length ∧ j < n := by
    rcases Nat.lt_or_ge j ((l.take n).map byteV).length with h | h
    · simp at h; omega
    · rw [List.getElem?_eq_none h] at hv; cases hv
  have e2 : v = .int .u8 ((l[j]'hj.1 : Nat) : Int) := by
    have : ((l.take n).map byteV)[j]? = some (byteV (l[j]'hj.1)) := by simp [hj.1, hj.2]
    rw [this] at hv
    cases hv; rfl
  rw [e2]
  have := hb j hj.1
  by_cases j0 : j = 0
  · subst j0; simpa [Addr.add] using this
  · simpa [Addr.add, j0] using this

theorem NewTo.of_whole {W w : World} {m : List Nat} {n : Nat} (hn : m.length = n) (hb : Below W.heap.size W w) (h : w.heap[W.heap.size]? = some (.cells (rowArr n (vOf m)) 5 (0, 0))) : NewTo W w m n := by
  subst hn
  exact ⟨hb, Row.of_whole h⟩

theorem bytes_one {l : List Nat} : ∀ v ∈ l.map byteV, v.oneCell' = true := by
  intro v hv
  obtain ⟨c, _, rfl⟩ := List.mem_map.1 hv
  rfl

end Go.Proofs.Ytdfgdpgffblbpaa
