/-
  What package vector's functions, and the document's Plus, answer of any bytes.
  Lists of lists of bytes; filled up with noughts; the sum of sources times a row. Plain mathematics.
  Slices of slices of bytes in memory; what the document's Fill answers.
  Bytes appended to bytes that are just made.
  One more at the end of a slice of slices of bytes that the call makes.
  A slice of slices of bytes that a call makes by make, and stores into.
  bytes.Clone: a copy of bytes.
  Package codec: an Out in memory; what is put.
  Package codec: sized, spoil, put.
  The document's numbers as bytes, walked.
-/
import Derived.Test.YtfgaohilpbocbaaGreatDoorMm1
import Derived.StillTailTactics
import Derived.Laws.CopyOwn
import Derived.Laws.AppendOwn
import Derived.OwnWalk
import Derived.Laws.Append
section
namespace Go.Proofs.YtfgaohilpbocbaaGreatDoor
open Go.ChangeShapes Go.WideShapes Go.ChangeAt Go.RowKit
set_option linter.unusedVariables false

/-- c times each. -/
def scaleN (l : List Nat) (c : Nat) : List Nat := l.map fun x => mulN x c
/-- Each, and c times another. -/
def plusN (l m : List Nat) (c : Nat) : List Nat := List.zipWith (fun x y => x ^^^ mulN y c) l m

theorem scaleN_len (l : List Nat) (c : Nat) : (scaleN l c).length = l.length := by simp [scaleN]
theorem plusN_len (l m : List Nat) (c : Nat) (h : l.length ≤ m.length) : (plusN l m c).length = l.length := by simp [plusN]; omega
theorem scaleN_byte (l : List Nat) (c : Nat) (h : IsByte l) : IsByte (scaleN l c) := fun n hn => by
  obtain ⟨x, hx, rfl⟩ := List.mem_map.1 hn
  exact mulN_lt c (h x hx)
theorem plusN_get (l m : List Nat) (c k : Nat) (h : k < (plusN l m c).length) (h1 : k < l.length) (h2 : k < m.length) : (plusN l m c)[k] = l[k] ^^^ mulN m[k] c := by simp [plusN]
theorem scaleN_get (l : List Nat) (c k : Nat) (h : k < (scaleN l c).length) (h1 : k < l.length) : (scaleN l c)[k] = mulN l[k] c := by simp [scaleN]
theorem plusN_byte (l m : List Nat) (c : Nat) (h1 : IsByte l) (h2 : IsByte m) : IsByte (plusN l m c) := fun n hn => by
  obtain ⟨i, hi, rfl⟩ := List.getElem_of_mem hn
  have hi' : i < l.length ∧ i < m.length := by simp [plusN] at hi; omega
  rw [plusN_get l m c i hi hi'.1 hi'.2]
  exact xor_lt (h1 _ (List.getElem_mem _)) (mulN_lt _ (h2 _ (List.getElem_mem _)))

set_option maxHeartbeats 400000 in
theorem scale_any (a : Option Addr) (cap : Nat) (l : List Nat) (c : Nat) (w : World) (hl : l.length ≤ 1000000) (hc : c < 256) (hs : Sl w a cap l) :
    Calls Tryz.prog 189 #[.slice a l.length cap, .int .u8 (c : Int)] w fun e w' => e = .returned (.slice (some ⟨w.heap.size, 0, none⟩) l.length l.length) ∧ NewTo w w' (scaleN l c) l.length := by
  have HS := Lib.hid hs
  have hmk := make_row l.length hl
  have HN := Lib.hid (new_start w (scaleN l c) l.length (scaleN_len l c))
  clear hs
  go_enter Tryz.func189, Tryz.ntmps189
  go_wp2_with fail
  clear hmk
  go_loopw [13] (fun i wr => ∃ k : Nat, k ≤ l.length ∧ i = .int .i64 k ∧ Hid (NewTo w wr (scaleN l c) k)) (fun i _ => l.length - (intOf i).toNat)
  case atStart => exact ⟨0, by omega, rfl, HN⟩
  case round =>
    obtain ⟨k, hk, rfl, HK⟩ := hrel
    by_cases hlt : k < l.length
    · obtain ⟨b, off, rfl, hb⟩ := (HS.out.below HK.out.below).some hlt
      have hck := hb k hlt
      have hx : l[k] < 256 := HS.out.byte _ (List.getElem_mem hlt)
      obtain ⟨vk, hcv⟩ := HK.out.row.has k (by rw [scaleN_len]; exact hlt)
      have hlo := HK.out.row.loose k
      have HX : Hid (NewTo w (wr.setCell ⟨w.heap.size, k, none⟩ (.int .u8 ((mulN l[k] c : Nat) : Int))) (scaleN l c) (k + 1)) := HK.out.set (by rw [scaleN_len]; exact hlt) (by rw [scaleN_get l c k _ hlt])
      generalize l[k] = x at *
      clear hb
      go_wp2_with (go_at_call 211; refine (mul_any _ _ hx hc _).mono ?_; rintro e w' ⟨rfl, rfl⟩)
      go_roundw
      case rel => exact ⟨k + 1, by omega, by go_num, HX⟩
      case measure => simp [intOf]; omega
    · obtain rfl : k = l.length := by omega
      go_wp2_with fail
      go_ret
      exact ⟨rfl, HK.out⟩

/-- A row that is c times m first, and l added to it up to a place. -/
def mixV (l m : List Nat) (c k j : Nat) : Value := if j < k then vOf (plusN l m c) j else vOf (scaleN m c) j
structure MixTo (W w : World) (l m : List Nat) (c k : Nat) : Prop where
  below : Below W.heap.size W w
  row : Row w W.heap.size 5 m.length m.length (mixV l m c k)
theorem MixTo.start {W w : World} {m : List Nat} {c : Nat} (l : List Nat) (h : NewTo W w (scaleN m c) m.length) : MixTo W w l m c 0 := by
  have hr := h.row
  rw [scaleN_len] at hr
  exact ⟨h.below, hr.mono (Nat.le_refl _) fun j hj => by simp [mixV]⟩
theorem MixTo.set {W w : World} {l m : List Nat} {c k : Nat} (h : MixTo W w l m c k) (he : l.length = m.length) (hk : k < m.length) {u : Value} (hu : u = vOf (plusN l m c) k) : MixTo W (w.setCell ⟨W.heap.size, k, none⟩ u) l m c (k + 1) :=
  ⟨h.below.setCell (Nat.le_refl _) _, (h.row.upd k hk u).mono (Nat.le_refl _) fun j hj => by
    by_cases e : j = k
    · subst e; simp [mixV, hu]
    · simp only [e, if_false, mixV]
      by_cases h2 : j < k
      · rw [if_pos h2, if_pos (by omega)]
      · rw [if_neg h2, if_neg (by omega)]⟩
theorem MixTo.done {W w : World} {l m : List Nat} {c : Nat} (h : MixTo W w l m c l.length) (he : l.length = m.length) : NewTo W w (plusN l m c) l.length := by
  refine ⟨h.below, ?_⟩
  rw [plusN_len l m c (by omega)]
  have hr := h.row
  rw [← he] at hr
  exact hr.mono (Nat.le_refl _) fun j hj => by simp [mixV, hj]

set_option maxHeartbeats 400000 in
theorem axpy_same (a a2 : Option Addr) (cap cap2 : Nat) (l m : List Nat) (c : Nat) (w : World) (hl : m.length ≤ 1000000) (hc : c < 256) (he : l.length = m.length) (hs : Sl w a cap l) (hs2 : Sl w a2 cap2 m) :
    Calls Tryz.prog 145 #[.slice a l.length cap, .slice a2 m.length cap2, .int .u8 (c : Int)] w fun e w' => e = .returned (.tuple #[.slice (some ⟨w.heap.size, 0, none⟩) l.length l.length, .int .i64 0]) ∧ NewTo w w' (plusN l m c) l.length := by
  have HS := Lib.hid hs
  have HS2 := Lib.hid hs2
  have HE := Lib.hid he
  rw [he]
  have hne : ((m.length : Int) != (m.length : Int)) = false := by simp
  clear hs hs2 he
  go_enter Tryz.func145, Tryz.ntmps145
  go_wp2_with fail
  refine (scale_any _ _ _ _ _ hl hc HS2.out).mono ?_
  rintro e w1 ⟨rfl, hn1⟩
  have HN := Lib.hid (MixTo.start l hn1)
  clear hn1
  go_wp2_with fail
  go_loopw [21] (fun i wr => ∃ k : Nat, k ≤ m.length ∧ i = .int .i64 k ∧ Hid (MixTo w wr l m c k)) (fun i _ => m.length - (intOf i).toNat)
  case atStart => exact ⟨0, by omega, rfl, HN⟩
  case round =>
    obtain ⟨k, hk, rfl, HK⟩ := hrel
    by_cases hlt : k < m.length
    · have hlt1 : k < l.length := by rw [HE.out]; exact hlt
      obtain ⟨b, off, rfl, hb⟩ := (HS.out.below HK.out.below).some hlt1
      have hck := hb k hlt1
      have hx : l[k] < 256 := HS.out.byte _ (List.getElem_mem hlt1)
      have hy : mulN m[k] c < 256 := mulN_lt _ (HS2.out.byte _ (List.getElem_mem hlt))
      have hcv : wr.cell? ⟨w.heap.size, k, none⟩ = some (.int .u8 ((mulN m[k] c : Nat) : Int)) := by
        rw [HK.out.row.cell k hlt]
        simp only [mixV, Nat.lt_irrefl, if_false]
        rw [vOf_eq _ _ (by rw [scaleN_len]; exact hlt), scaleN_get m c k _ hlt]
      have hlo := HK.out.row.loose k
      have HX : Hid (MixTo w (wr.setCell ⟨w.heap.size, k, none⟩ (.int .u8 ((l[k] ^^^ mulN m[k] c : Nat) : Int))) l m c (k + 1)) := HK.out.set HE.out hlt (by rw [vOf_eq _ _ (by rw [plusN_len l m c (by have := HE.out; omega)]; exact hlt1), plusN_get l m c k _ hlt1 hlt])
      generalize l[k] = x at *
      generalize mulN m[k] c = y at *
      clear hb
      go_wp2_with (go_at_call 188; refine (add_any _ _ hx hy _).mono ?_; rintro e w' ⟨rfl, rfl⟩)
      go_roundw
      case rel => exact ⟨k + 1, by omega, by go_num, HX⟩
      case measure => simp [intOf]; omega
    · obtain rfl : k = m.length := by omega
      go_wp2_with fail
      go_ret2
      exact ⟨rfl, by have h := HK.out; rw [← HE.out] at h ⊢; exact h.done HE.out⟩

theorem axpy_other (a a2 : Option Addr) (n m cap cap2 : Nat) (c : Nat) (w : World) (he : n ≠ m) :
    Calls Tryz.prog 145 #[.slice a n cap, .slice a2 m cap2, .int .u8 (c : Int)] w fun e w' => e = .returned (.tuple #[.slice none 0 0, .int .i64 1]) ∧ w = w' := by
  have hne : ((n : Int) != (m : Int)) = true := by simp; omega
  have HE := Lib.hid he
  clear he
  go_enter Tryz.func145, Tryz.ntmps145
  go_wp2
  go_ret2
  exact ⟨rfl, rfl⟩

theorem getD_lt {l : List Nat} (h : IsByte l) (k : Nat) : l.getD k 0 < 256 := by
  by_cases hk : k < l.length
  · simp only [List.getD, List.getElem?_eq_getElem hk, Option.getD_some]; exact h _ (List.getElem_mem hk)
  · simp [List.getD, List.getElem?_eq_none (show l.length ≤ k by omega)]
end Go.Proofs.YtfgaohilpbocbaaGreatDoor
end

section
namespace Go.Proofs.YtfgaohilpbocbaaGreatDoor
set_option linter.unusedVariables false

theorem getD_get {l : List Nat} {j : Nat} (h : j < l.length) : l.getD j 0 = l[j] := by simp [List.getD, h]
theorem getD_high {l : List Nat} {j : Nat} (h : l.length ≤ j) : l.getD j 0 = 0 := by simp [List.getD, List.getElem?_eq_none h]
abbrev Rws := List (List Nat)
theorem getR {ls : Rws} {k : Nat} (h : k < ls.length) : ls.getD k [] = ls[k] := by simp [List.getD, h]
/-- So many bytes, with noughts behind. -/
def fillN (l : List Nat) (n : Nat) : List Nat := (List.range n).map fun j => l.getD j 0
theorem fillN_len (l : List Nat) (n : Nat) : (fillN l n).length = n := by simp [fillN]
theorem fillN_get (l : List Nat) (n j : Nat) (h : j < n) : (fillN l n).getD j 0 = l.getD j 0 := by
  rw [getD_get (by rw [fillN_len]; exact h)]; simp [fillN]
theorem fillN_byte {l : List Nat} (h : IsByte l) (n : Nat) : IsByte (fillN l n) := fun x hx => by
  obtain ⟨j, hj, rfl⟩ := List.mem_map.1 hx
  exact getD_lt h j
theorem fillN_self (l : List Nat) : fillN l l.length = l := by
  apply List.ext_getElem (fillN_len _ _)
  intro i h1 h2
  simp [fillN, h2]
def pads (rows : Rws) (N : Nat) : Rws := rows.map fun r => fillN r N
/-- The document's symbol: the sum of sources, filled up, times a row. -/
def symTo (v : Rws) (m : Nat) (row : List Nat) : Nat → List Nat
  | 0 => List.replicate m 0
  | i + 1 => plusN (symTo v m row i) (fillN (v.getD i []) m) (row.getD i 0)
theorem symTo_ok {v : Rws} {m : Nat} {row : List Nat} (hv : ∀ x ∈ v, IsByte x) : ∀ i, i ≤ v.length → (symTo v m row i).length = m ∧ IsByte (symTo v m row i)
  | 0, _ => ⟨by simp [symTo], fun n hn => by simp [symTo] at hn; omega⟩
  | i + 1, hi => by
    obtain ⟨h1, h2⟩ := symTo_ok (row := row) (m := m) hv i (by omega)
    have hb : IsByte (v.getD i []) := by
      have : v.getD i [] = v[i] := by simp [List.getD, show i < v.length by omega]
      rw [this]; exact hv _ (List.getElem_mem _)
    refine ⟨?_, plusN_byte _ _ _ h2 (fillN_byte hb m)⟩
    show (plusN _ _ _).length = m
    rw [plusN_len _ _ _ (by rw [h1, fillN_len]; exact Nat.le_refl _), h1]
end Go.Proofs.YtfgaohilpbocbaaGreatDoor
end

section
namespace Go.Proofs.YtfgaohilpbocbaaGreatDoor
open Go.ChangeShapes Go.WideShapes Go.ChangeAt Go.RowKit Go.Joins
set_option linter.unusedVariables false

/-! A frame: blocks below a place, and blocks of bytes, stay. -/

def Byt (w : World) (k : Nat) : Prop := ∃ cs r, w.heap[k]? = some (.cells cs 5 r)
structure Keep (B : Nat) (w w' : World) : Prop where
  os : w'.os = w.os
  tape : w'.tape = w.tape
  output : w'.output = w.output
  size : w.heap.size ≤ w'.heap.size
  block : ∀ k, k < w.heap.size → (k < B ∨ Byt w k) → w'.heap[k]? = w.heap[k]?
theorem Keep.refl (B : Nat) (w : World) : Keep B w w := ⟨rfl, rfl, rfl, Nat.le_refl _, fun _ _ _ => rfl⟩
theorem Keep.byt {B : Nat} {w w' : World} (h : Keep B w w') {k : Nat} (hk : Byt w k) : Byt w' k := by
  obtain ⟨cs, r, e⟩ := hk
  have hlt := (Array.getElem?_eq_some_iff.1 e).1
  exact ⟨cs, r, by rw [h.block k hlt (.inr ⟨cs, r, e⟩)]; exact e⟩
theorem Keep.trans {B : Nat} {a b c : World} (h : Keep B a b) (k : Keep B b c) : Keep B a c :=
  ⟨k.os.trans h.os, k.tape.trans h.tape, k.output.trans h.output, Nat.le_trans h.size k.size, fun i hi hb => by
    rw [k.block i (Nat.lt_of_lt_of_le hi h.size) (hb.imp id h.byt)]
    exact h.block i hi hb⟩
theorem Keep.of_below {B : Nat} {w w' : World} (h : Below w.heap.size w w') : Keep B w w' := ⟨h.os, h.tape, h.output, h.size, fun k hk _ => h.block k hk⟩
theorem Keep.below {B : Nat} {w w' : World} (h : Keep B w w') (hB : B ≤ w.heap.size) : Below B w w' := ⟨h.os, h.tape, h.output, h.size, fun k hk => h.block k (by omega) (.inl hk)⟩
theorem Keep.drewN {B : Nat} {a w : World} (h : Keep B a w) (n : Nat) : Keep B a (w.drewN n) := ⟨h.os, h.tape, h.output, h.size, h.block⟩
theorem Keep.drew {B : Nat} {a w : World} (h : Keep B a w) : Keep B a w.drew := ⟨h.os, h.tape, h.output, h.size, h.block⟩
/-- Block g is memory of another kind, made since. -/
def Other (B : Nat) (w : World) (g : Nat) : Prop := B ≤ g ∧ ∃ cs t r, w.heap[g]? = some (.cells cs t r) ∧ t ≠ 5
theorem Other.not_byt {B : Nat} {w : World} {g : Nat} (h : Other B w g) : ¬ Byt w g := fun ⟨cs, r, e⟩ => by
  obtain ⟨_, cs', t, r', e', hne⟩ := h
  rw [e] at e'
  injection e' with e'
  injection e' with _ e2
  exact hne e2.symm
theorem Keep.set {B : Nat} {a w : World} (h : Keep B a w) {p : Addr} (hp : Other B w p.block) (u : Value) : Keep B a (w.setCell p u) :=
  h.trans ⟨rfl, rfl, rfl, by simp, fun k hk hb => by
    refine Below.heap_setCell _ _ _ _ fun e => ?_
    subst e
    rcases hb with hb | hb
    · have := hp.1; omega
    · exact hp.not_byt hb⟩
theorem Keep.alloc {B : Nat} {a w : World} (h : Keep B a w) (o : Obj) : Keep B a (w.alloc o) :=
  h.trans (Keep.of_below ((Below.refl _ _).alloc (Nat.le_refl _) _))
theorem Keep.grown {B : Nat} {a w w' : World} {row : Option Nat} (h : Keep B a w) (hg : w.grownBy w' row) (hr : ∀ g, row = some g → Other B w g) : Keep B a w' :=
  h.trans ⟨hg.os, hg.tape, hg.output, hg.size, fun k hk hb => by
    refine hg.block k hk fun e => ?_
    have := hr k e.symm
    rcases hb with hb | hb
    · have := this.1; omega
    · exact this.not_byt hb⟩
theorem Other.of_own {B : Nat} {w : World} {e : TypeId} {size n : Nat} {v : Value} {xs : List Value} (h : w.ownsRow B e size v n xs) (he : e ≠ 5) : ∀ g, v.ownBlock = some g → Other B w g := fun g hg => by
  rcases h.2 with ⟨rfl, _⟩ | ⟨g', cap, cur, rfl, hb, hh, _⟩
  · simp [Value.ownBlock] at hg
  · have : g' = g := by simpa [Value.ownBlock] using hg
    subst this
    exact ⟨hb, cur, e, (0, 0), hh, he⟩

/-- Bytes that stay: they lie below B, or in a block of bytes. -/
structure Rw (B : Nat) (w : World) (a : Option Addr) (cap : Nat) (l : List Nat) : Prop where
  sl : Sl w a cap l
  tag : l ≠ [] → ∀ p, a = some p → p.block < B ∨ Byt w p.block
theorem BytesIn.of_block {w w' : World} {b off : Nat} {l : List Nat} (h : BytesIn w b off l) (e : w'.heap[b]? = w.heap[b]?) : BytesIn w' b off l := fun i hi => by
  rw [World.cell?_of_block (w := w) (a := ⟨b, off + i, none⟩) e]; exact h i hi
theorem Rw.keep {B : Nat} {w w' : World} {a : Option Addr} {cap : Nat} {l : List Nat} (h : Rw B w a cap l) (k : Keep B w w') : Rw B w' a cap l := by
  refine ⟨⟨h.sl.byte, h.sl.len, h.sl.most, h.sl.none, ?_⟩, fun hl p hp => (h.tag hl p hp).imp id k.byt⟩
  rcases h.sl.here with e | ⟨b, off, e, hb⟩
  · exact .inl e
  · by_cases hl : l = []
    · exact .inl hl
    · refine .inr ⟨b, off, e, hb.of_block (k.block b ?_ (h.tag hl _ e))⟩
      have h0 : 0 < l.length := List.length_pos_iff.2 hl
      exact World.block_lt_of_cell? w _ (hb 0 h0)
theorem Rw.below {B : Nat} {w w' : World} {a : Option Addr} {cap : Nat} {l : List Nat} (h : Rw B w a cap l) (k : Below w.heap.size w w') : Rw B w' a cap l := h.keep (Keep.of_below k)
theorem Rw.of_new {B : Nat} {W w : World} {m : List Nat} (h : NewTo W w m m.length) (hb : IsByte m) (hm : m.length ≤ 1000000) : Rw B w (some ⟨W.heap.size, 0, none⟩) m.length m :=
  ⟨h.sl hb hm, fun _ p hp => by
    cases hp
    obtain ⟨cs, e, _⟩ := h.row
    exact .inr ⟨cs, (0, 0), e⟩⟩
theorem Rw.of_sl {w : World} {a : Option Addr} {cap : Nat} {l : List Nat} (h : Sl w a cap l) : Rw w.heap.size w a cap l :=
  ⟨h, fun hl p hp => by
    have h0 : 0 < l.length := List.length_pos_iff.2 hl
    obtain ⟨b, off, e, hb⟩ := h.some h0
    rw [e] at hp
    cases hp
    exact .inl (World.block_lt_of_cell? w _ (hb 0 h0))⟩

/-! Slices of slices. -/

/-- Cells from a place on hold slices that read as these. -/
def RowsIn (B : Nat) (w : World) (b off : Nat) (ls : Rws) : Prop := ∀ i (h : i < ls.length), ∃ a c, w.cell? ⟨b, off + i, none⟩ = some (.slice a ls[i].length c) ∧ Rw B w a c ls[i]
/-- The slice '.slice a ls.length cap' reads as ls. -/
structure Rs (B : Nat) (w : World) (a : Option Addr) (cap : Nat) (ls : Rws) : Prop where
  len : ls.length ≤ cap
  most : cap ≤ maxLen
  none : a = none → ls = []
  here : ls = [] ∨ ∃ b off, a = some ⟨b, off, Option.none⟩ ∧ b < B ∧ RowsIn B w b off ls
theorem Rs.byte {B : Nat} {w : World} {a : Option Addr} {cap : Nat} {ls : Rws} (h : Rs B w a cap ls) : ∀ x ∈ ls, IsByte x := fun x hx => by
  rcases h.here with rfl | ⟨b, off, _, _, hr⟩
  · simp at hx
  · obtain ⟨i, hi, rfl⟩ := List.getElem_of_mem hx
    obtain ⟨_, _, _, k⟩ := hr i hi
    exact k.sl.byte
theorem Rs.some {B : Nat} {w : World} {a : Option Addr} {cap : Nat} {ls : Rws} (h : Rs B w a cap ls) {k : Nat} (hk : k < ls.length) : ∃ b off, a = some ⟨b, off, Option.none⟩ ∧ b < B ∧ RowsIn B w b off ls := by
  rcases h.here with rfl | h
  · simp at hk
  · exact h
theorem RowsIn.below {B : Nat} {w w' : World} {b off : Nat} {ls : Rws} (h : RowsIn B w b off ls) (hb : b < B) (hB : B ≤ w.heap.size) (k : Keep B w w') : RowsIn B w' b off ls := fun i hi => by
  obtain ⟨a, c, h1, h2⟩ := h i hi
  refine ⟨a, c, ?_, h2.keep k⟩
  rw [(k.below hB).cell (p := ⟨b, off + i, none⟩) hb]; exact h1
theorem Rs.keep {B : Nat} {w w' : World} {a : Option Addr} {cap : Nat} {ls : Rws} (h : Rs B w a cap ls) (hB : B ≤ w.heap.size) (k : Keep B w w') : Rs B w' a cap ls :=
  ⟨h.len, h.most, h.none, h.here.imp id fun ⟨b, off, e, hb, hr⟩ => ⟨b, off, e, hb, hr.below hb hB k⟩⟩
theorem Rs.lt {B : Nat} {w : World} {a : Option Addr} {cap : Nat} {ls : Rws} (h : Rs B w a cap ls) : ls.length ≤ 9223372036854775807 := by
  have h1 := h.len
  have h2 := h.most
  unfold maxLen at h2
  omega
theorem nil_rs (B : Nat) (w : World) : Rs B w none 0 [] := ⟨Nat.zero_le _, by simp, fun _ => rfl, .inl rfl⟩

/-- A slice of slices that this call makes, by append. -/
def Own (B : Nat) (w : World) (v : Value) (ls : Rws) : Prop :=
  ∃ xs : List Value, w.ownsRow B 53 1 v ls.length xs ∧ ∀ i (h : i < ls.length), ∃ a c, xs[i]? = some (.slice a ls[i].length c) ∧ Rw B w a c ls[i]
theorem Own.nil (B : Nat) (w : World) : Own B w (.slice none 0 0) [] := ⟨[], World.ownsRow_nil _ _ _ _, by simp⟩
theorem Own.form {B : Nat} {w : World} {v : Value} {ls : Rws} (h : Own B w v ls) : ∃ a cap, v = .slice a ls.length cap ∧ cap ≤ maxLen ∧ ls.length ≤ cap ∧ (a = none → ls = []) ∧ (ls = [] ∨ ∃ b, a = some ⟨b, 0, none⟩ ∧ B ≤ b ∧ b < w.heap.size ∧ RowsIn B w b 0 ls) := by
  obtain ⟨xs, ho, hx⟩ := h
  rcases ho.2 with ⟨rfl, hn⟩ | ⟨g, cap, cur, rfl, hb, hh, h1, h2, h3, h4⟩
  · have : ls = [] := List.eq_nil_of_length_eq_zero hn
    subst this
    exact ⟨none, 0, rfl, by simp, by simp, fun _ => rfl, .inl rfl⟩
  · refine ⟨_, cap, rfl, h2, h1, fun e => (by cases e), .inr ⟨g, rfl, hb, (Array.getElem?_eq_some_iff.1 hh).1, fun i hi => ?_⟩⟩
    obtain ⟨a, c, e1, e2⟩ := hx i hi
    refine ⟨a, c, ?_, e2⟩
    have := ho.cells (g := g) rfl i _ e1
    by_cases hi0 : i = 0
    · subst hi0; simpa [Addr.add] using this
    · simpa [Addr.add, hi0] using this
/-- As seen by a call behind. -/
theorem Own.rs {B : Nat} {w : World} {v : Value} {ls : Rws} (h : Own B w v ls) : ∃ a cap, v = .slice a ls.length cap ∧ Rs w.heap.size w a cap ls := by
  obtain ⟨a, cap, e, h1, h2, h3, h4⟩ := h.form
  refine ⟨a, cap, e, h2, h1, h3, h4.imp id fun ⟨b, e', _, hlt, hr⟩ => ⟨b, 0, e', hlt, fun i hi => ?_⟩⟩
  obtain ⟨a', c', e1, e2⟩ := hr i hi
  exact ⟨a', c', e1, Rw.of_sl e2.sl⟩
theorem Own.keep {B : Nat} {w w' : World} {v : Value} {ls : Rws} (h : Own B w v ls) (k : Below w.heap.size w w') : Own B w' v ls := by
  obtain ⟨xs, ho, hx⟩ := h
  refine ⟨xs, ho.kept (row := none) ⟨k.os, k.tape, k.output, k.size, fun j hj _ => k.block j hj⟩ ?_, fun i hi => ?_⟩
  · cases hv : v.ownBlock with
    | none => exact .inl rfl
    | some g => exact .inr (by simp)
  · obtain ⟨a, c, e1, e2⟩ := hx i hi
    exact ⟨a, c, e1, e2.below k⟩

/-! Fill. -/

theorem fill_row (l : List Nat) (n : Nat) : (splice (rowArr n zV).toList 0 ((l.take n).map byteV)).toArray = rowArr n (vOf (fillN l n)) := by
  have hlen : (splice (rowArr n zV).toList 0 ((l.take n).map byteV)).length = n := by
    rw [length_splice _ _ _ (by simp [rowArr]; omega)]; simp [rowArr]
  apply Array.ext
  · rw [List.size_toArray, hlen, rowArr_size]
  · intro i h1 h2
    rw [rowArr_size] at h2
    have e1 : (rowArr n (vOf (fillN l n)))[i] = byteV (l.getD i 0) := by
      simp only [rowArr, List.getElem_toArray, List.getElem_map, List.getElem_range, vOf]
      rw [fillN_get l n i h2]
    rw [e1]
    simp only [List.getElem_toArray, splice, List.take_zero, List.nil_append, Nat.zero_add]
    by_cases hi : i < l.length
    · rw [List.getElem_append_left (by simp; omega)]
      rw [getD_get hi]; simp
    · rw [List.getElem_append_right (by simp; omega)]
      simp only [List.getElem_drop, rowArr, List.getElem_map, zV]
      rw [getD_high (by omega)]; rfl

theorem src_cells {w : World} {a : Option Addr} {cap : Nat} {l : List Nat} (h : Sl w a cap l) (n : Nat) (h0 : 0 < ((l.take n).map byteV).length) : ∃ ad, a = some ad ∧ ∀ j v, ((l.take n).map byteV)[j]? = some v → w.cell? (ad.add j) = some v := by
  have h1 : 0 < l.length := by simp at h0; omega
  obtain ⟨b, off, e, hb⟩ := h.some h1
  refine ⟨_, e, fun j v hv => ?_⟩
  have hj : j < l.length ∧ j < n := by
    rcases Nat.lt_or_ge j ((l.take n).map byteV).length with h | h
    · simp at h; omega
    · rw [List.getElem?_eq_none h] at hv; cases hv
  have e2 : v = .int .u8 ((l[j]'hj.1 : Nat) : Int) := by
    have : ((l.take n).map byteV)[j]? = some (byteV (l[j]'hj.1)) := by simp [hj.1, hj.2]
    rw [this] at hv
    cases hv; rfl
  rw [e2]
  have := hb j hj.1
  by_cases j0 : j = 0
  · subst j0; simpa [Addr.add] using this
  · simpa [Addr.add, j0] using this

theorem NewTo.of_whole {W w : World} {m : List Nat} {n : Nat} (hn : m.length = n) (hb : Below W.heap.size W w) (h : w.heap[W.heap.size]? = some (.cells (rowArr n (vOf m)) 5 (0, 0))) : NewTo W w m n := by
  subst hn
  exact ⟨hb, Row.of_whole h⟩

theorem bytes_one {l : List Nat} : ∀ v ∈ l.map byteV, v.oneCell' = true := by
  intro v hv
  obtain ⟨c, _, rfl⟩ := List.mem_map.1 hv
  rfl

end Go.Proofs.YtfgaohilpbocbaaGreatDoor
end

section
namespace Go.Proofs.YtfgaohilpbocbaaGreatDoor
open Go.ChangeShapes Go.WideShapes Go.ChangeAt Go.RowKit Go.Joins
set_option linter.unusedVariables false

theorem byte_appB {l m : List Nat} (h1 : IsByte l) (h2 : IsByte m) : IsByte (l ++ m) := fun n hn => (List.mem_append.1 hn).elim (h1 n) (h2 n)
theorem info8B : (Tryz.prog.info? 5).map (fun i => (i.zero, i.size, i.bytes)) = some (some (.int .u8 0), 1, 1) := by kernel_rfl
theorem run_appB (B : Nat) (ty : TypeId) (g n : Nat) (l : List Nat) (ga : Option Addr) (gc : Nat) (m : List Nat) (w : World) (hg : Rw B w (some ⟨g, 0, none⟩) n l) (hl : l.length = n) (hs : Sl w ga gc m) (hn : n ≤ 100000) (hm : m.length ≤ 100000) :
    ∃ g' cap w', (Builtin.append_ #[53, 53] ty #[.slice (some ⟨g, 0, none⟩) n n, .slice ga m.length gc]).run Tryz.prog w = .ok (.slice (some ⟨g', 0, none⟩) (n + m.length) cap) w' ∧ Rw B w' (some ⟨g', 0, none⟩) cap (l ++ m) ∧ Below w.heap.size w w' := by
  obtain ⟨i0, hi, hz0, hz1, hz2⟩ := info_parts info8B
  have hrd : ∀ (k : List Nat) (b off : Nat), BytesIn w b off k → ∀ j v, (k.map byteV)[j]? = some v → w.cell? ((⟨b, off, none⟩ : Addr).add j) = some v := fun k b off hb j v hv => by
    rw [List.getElem?_map] at hv
    obtain ⟨x, hx, rfl⟩ := Option.map_eq_some_iff.1 hv
    obtain ⟨hj, rfl⟩ := List.getElem?_eq_some_iff.1 hx
    have := hb j hj
    by_cases j0 : j = 0
    · subst j0; simpa [Addr.add, byteV] using this
    · simpa [Addr.add, j0, byteV] using this
  have hold : BytesIn w g 0 l := by
    rcases hg.sl.here with rfl | ⟨b, off, e, hb⟩
    · intro i hi; simp at hi
    · cases e; exact hb
  by_cases h0 : m = []
  · subst h0
    refine ⟨g, n, w, ?_, by rw [List.append_nil]; exact hg, Below.refl _ _⟩
    cases ga with
    | none =>
      obtain ⟨_, rfl⟩ := hs.none rfl
      simp [Builtin.append_, run_underlying Tryz.underlying53, sizeOf, typeInfo, hi, Builtin.lenOf, Builtin.firstCells, storeCells]
    | some ad =>
      have hf := run_firstCells_some (P := Tryz.prog) w i0.size 0 ad 0 gc [] (by simp) (by simp)
      simp [Builtin.append_, run_underlying Tryz.underlying53, sizeOf, typeInfo, hi, Builtin.lenOf, hf, storeCells]
  · have hpos : 0 < m.length := List.length_pos_iff.2 h0
    obtain ⟨b, off, rfl, hb⟩ := hs.some hpos
    have hr := run_append_grow (P := Tryz.prog) w 53 ty 5 i0 (.int .u8 0) Tryz.underlying53 hi hz0 ⟨g, 0, none⟩ n n (l.map byteV) (by rw [List.length_map, hl, hz1]; simp) (hrd l g 0 hold) ⟨b, off, none⟩ m.length gc (m.map byteV) (by rw [List.length_map, hz1]; simp) (hrd m b off hb) (by omega) (by omega) (growslice_fits (by omega) (by rw [hz2]; omega))
    refine ⟨_, _, _, hr, ⟨⟨byte_appB hg.sl.byte hs.byte, ?_, ?_, fun e => (by cases e), .inr ⟨w.heap.size, 0, rfl, fun i hi => ?_⟩⟩, fun _ p hp => ?_⟩, ?_⟩
    · have := grownCap_ge w (n + m.length) n 5
      rw [List.length_append]; omega
    · exact grownCap_le_maxLen _ _ _ _ (by unfold maxLen; omega)
    · rw [List.length_append] at hi
      have hcell : ∀ (cs : Array Value) (k : Nat), (w.drew.alloc (.cells cs 5)).cell? ⟨w.heap.size, k, none⟩ = cs[k]? := fun cs k => by
        exact cell_of_row _ _ k cs 5 (0, 0) (heap_alloc_new w.drew _)
      rw [hcell, Nat.zero_add, Array.getElem?_append_left (by simp; omega), Array.getElem?_append]
      by_cases hk : i < l.length
      · rw [if_pos (by simpa using hk)]
        simp [hk, byteV, List.getElem_append_left hk]
      · rw [if_neg (by simpa using hk)]
        have hk2 : i - l.length < m.length := by omega
        simp [hk2, byteV, List.getElem_append_right (Nat.le_of_not_lt hk)]
    · cases hp
      exact .inr ⟨_, (0, 0), heap_alloc_new w.drew _⟩
    · exact ((Below.refl w.heap.size w).drew).alloc (Nat.le_refl _) _


theorem wpList_appB {ops : Array Oper} {rest : List Oper} {o : Oper} {a : Act} {Q : Exit → Act → World → Prop} (B : Nat) (g n : Nat) (l : List Nat) (ga : Option Addr) (gc q : Nat) (m : List Nat) (w : World) (hgd : o.guard = none) (s x : Operand)
    (ho : o.op = .call { callee := .builtin .append, args := #[s, x], argTypes := #[53, 53] }) (hsv : a.eval s = .slice (some ⟨g, 0, none⟩) n n) (hxv : a.eval x = .slice ga q gc) (hq : m.length = q)
    (hg : Rw B w (some ⟨g, 0, none⟩) n l) (hl : l.length = n) (hs : Sl w ga gc m) (hn : n ≤ 100000) (hm : m.length ≤ 100000)
    (h : ∀ g' cap w', Hid (Rw B w' (some ⟨g', 0, none⟩) cap (l ++ m)) → Below w.heap.size w w' → wpList Tryz.prog ops Q rest (a.put o.dst (.slice (some ⟨g', 0, none⟩) (n + q) cap)) w') : wpList Tryz.prog ops Q (o :: rest) a w := by
  subst hq
  refine wpList_plain hgd fun K hK => ?_
  obtain ⟨g', cap, w', hr, h2, h3⟩ := run_appB B o.type g n l ga gc m w hg hl hs hn hm
  unfold Oper.wp execOp
  simp only [ho, resolve, invoke, builtin, Sem.run_bind, Sem.run_pure, Result.andThen_ok, List.map_toArray, List.map_cons, List.map_nil, hsv, hxv, hr]
  exact hK _ _ (h g' cap w' h2 h3)
end Go.Proofs.YtfgaohilpbocbaaGreatDoor
end

section
namespace Go.Proofs.YtfgaohilpbocbaaGreatDoor
open Go.ChangeShapes Go.WideShapes Go.ChangeAt Go.RowKit Go.Joins
set_option linter.unusedVariables false

theorem infoR : (Tryz.prog.info? 53).map (fun i => (i.zero, i.size, i.bytes)) = some (some (.slice none 0 0), 1, 24) := by kernel_rfl

theorem one_cell {w : World} {g : Nat} {u : Value} (h : w.cell? ⟨g, 0, none⟩ = some u) : ∀ j x, [u][j]? = some x → w.cell? ((⟨g, 0, none⟩ : Addr).add j) = some x := fun j x hx => by
  cases j with
  | zero => simp at hx; subst hx; simpa [Addr.add] using h
  | succ j => simp at hx

theorem wpList_push_rows {ops : Array Oper} {rest : List Oper} {o : Oper} {a : Act} {Q : Exit → Act → World → Prop} (w : World) (hgd : o.guard = none) (s x : Operand)
    (ho : o.op = .call { callee := .builtin .append, args := #[s, x], argTypes := #[31, 31] })
    (B : Nat) (v : Value) (ls : Rws) (hs : a.eval s = v) (hown : Own B w v ls) (g : Nat) (hx : a.eval x = .slice (some ⟨g, 0, none⟩) 1 1)
    (aa : Option Addr) (c : Nat) (l : List Nat) (hcell : w.cell? ⟨g, 0, none⟩ = some (.slice aa l.length c)) (hrw : Rw B w aa c l) (hB : B ≤ w.heap.size) (hlen : ls.length ≤ 100000)
    (h : ∀ v' w', Hid (Own B w' v' (ls ++ [l])) → Keep B w w' → wpList Tryz.prog ops Q rest (a.put o.dst v') w') : wpList Tryz.prog ops Q (o :: rest) a w := by
  obtain ⟨i0, hi, hz0, hz1, hz2⟩ := info_parts infoR
  obtain ⟨xs, ho1, hxs⟩ := hown
  refine wpList_append_own w hgd s x 31 ho B 53 i0 (.slice none 0 0) 1 24 Tryz.underlying31 hi hz0 hz1 hz2 rfl (by decide) v ls.length xs hs ho1 ⟨g, 0, none⟩ 1 1 [.slice aa l.length c] hx rfl (one_cell hcell) (by simp [Value.oneCell']) (by unfold maxLen; omega) (by omega) hB ?_
  intro v' w' h1 h2 _
  have hk : Keep B w w' := (Keep.refl B w).grown h2 (Other.of_own ho1 (by decide))
  refine h v' w' ⟨xs ++ [.slice aa l.length c], by simpa using h1, fun i hi' => ?_⟩ hk
  have hxl : xs.length = ls.length := by simpa using ho1.1
  by_cases e : i < ls.length
  · obtain ⟨a', c', e1, e2⟩ := hxs i e
    refine ⟨a', c', ?_, ?_⟩
    · rw [List.getElem_append_left e, List.getElem?_append_left (by omega)]; exact e1
    · rw [List.getElem_append_left e]; exact e2.keep hk
  · have e2 : i = ls.length := by simp at hi'; omega
    subst e2
    refine ⟨aa, c, ?_, ?_⟩
    · rw [List.getElem_append_right (Nat.le_refl _), List.getElem?_append_right (by omega)]
      simp [hxl]
    · rw [List.getElem_append_right (Nat.le_refl _)]
      simpa using hrw.keep hk

end Go.Proofs.YtfgaohilpbocbaaGreatDoor
end

section
namespace Go.Proofs.YtfgaohilpbocbaaGreatDoor
open Go.ChangeShapes Go.WideShapes Go.ChangeAt Go.RowKit Go.Joins
set_option linter.unusedVariables false

def nilV (_ : Nat) : Value := .slice none 0 0
theorem infoG : (Tryz.prog.info? 53).map (fun i => (i.zero, i.size, i.bytes)) = some (some (.slice none 0 0), 1, 24) := by kernel_rfl
set_option maxRecDepth 100000 in
theorem make_grid (n : Nat) (hn : n ≤ 1000000) (w : World) : (Instr.makeSlice 31 (.int .i64 (n : Int)) (.int .i64 (n : Int))).run Tryz.prog w = .ok (.slice (some ⟨w.heap.size, 0, none⟩) n n) (w.alloc (.cells (rowArr n nilV) 53)) := by
  have h := run_make_row' (P := Tryz.prog) 31 53 (.slice none 0 0) 24 Tryz.underlying31 infoG rfl .i64 .i64 n (by omega) (by omega) w
  rw [h]
  congr 3
  apply Array.ext
  · simp [madeCells, rowArr]
  · intro i h1 h2
    simp [madeCells, rowArr, nilV, Nat.mod_one]

/-- Block g holds slices that read as these; the bytes stay. -/
structure Grid (B : Nat) (w : World) (g : Nat) (ls : Rws) : Prop where
  low : B ≤ g
  row : ∃ vs : Nat → Value, Row w g 53 ls.length ls.length vs ∧ ∀ i (h : i < ls.length), ∃ a c, vs i = .slice a ls[i].length c ∧ Rw B w a c ls[i]

theorem nil_rw (B : Nat) (w : World) : Rw B w none 0 [] := ⟨nil_sl w, fun h => absurd rfl h⟩
theorem Grid.new (B n : Nat) (w : World) (hB : B ≤ w.heap.size) : Grid B (w.alloc (.cells (rowArr n nilV) 53)) w.heap.size (List.replicate n []) := by
  refine ⟨hB, nilV, ?_, fun i hi => ⟨none, 0, ?_, ?_⟩⟩
  · rw [List.length_replicate]; exact Row.new_whole w _ _ nilV _ _ rfl rfl
  · simp [nilV]
  · simpa using nil_rw B _
theorem Grid.cell {B : Nat} {w : World} {g : Nat} {ls : Rws} (h : Grid B w g ls) {i : Nat} (hi : i < ls.length) : ∃ a c, w.cell? ⟨g, i, none⟩ = some (.slice a ls[i].length c) ∧ Rw B w a c ls[i] := by
  obtain ⟨vs, hr, hv⟩ := h.row
  obtain ⟨a, c, e, hw⟩ := hv i hi
  exact ⟨a, c, by rw [hr.cell i hi, e], hw⟩
theorem Grid.loose {B : Nat} {w : World} {g : Nat} {ls : Rws} (h : Grid B w g ls) (i : Nat) : w.frozen? ⟨g, i, none⟩ = false := by
  obtain ⟨vs, hr, _⟩ := h.row
  exact hr.loose i
theorem Grid.other {B : Nat} {w : World} {g : Nat} {ls : Rws} (h : Grid B w g ls) : Other B w g := by
  obtain ⟨vs, ⟨cs, e, _⟩, _⟩ := h.row
  exact ⟨h.low, cs, _, _, e, by decide⟩
theorem Grid.lt {B : Nat} {w : World} {g : Nat} {ls : Rws} (h : Grid B w g ls) : g < w.heap.size := by
  obtain ⟨vs, hr, _⟩ := h.row
  exact hr.lt
theorem Grid.set {B : Nat} {w : World} {g : Nat} {ls : Rws} (h : Grid B w g ls) {i : Nat} (hi : i < ls.length) {a : Option Addr} {c : Nat} {x : List Nat} (hx : Rw B w a c x) : Grid B (w.setCell ⟨g, i, none⟩ (.slice a x.length c)) g (ls.set i x) := by
  have hk : Keep B w (w.setCell ⟨g, i, none⟩ (.slice a x.length c)) := (Keep.refl B w).set (p := ⟨g, i, none⟩) h.other _
  obtain ⟨vs, hr, hv⟩ := h.row
  refine ⟨h.low, fun j => if j = i then .slice a x.length c else vs j, ?_, fun j hj => ?_⟩
  · rw [List.length_set]; exact hr.upd i hi _
  · rw [List.length_set] at hj
    by_cases e : j = i
    · subst e
      exact ⟨a, c, by simp, by simpa using hx.keep hk⟩
    · obtain ⟨a', c', e1, e2⟩ := hv j hj
      refine ⟨a', c', ?_, ?_⟩
      · simp only [e, if_false, e1]
        rw [List.getElem_set_ne (Ne.symm e)]
      · rw [List.getElem_set_ne (Ne.symm e)]; exact e2.keep hk
theorem Grid.keep_set {B : Nat} {w : World} {g : Nat} {ls : Rws} (h : Grid B w g ls) (i : Nat) (u : Value) {a : World} (k : Keep B a w) : Keep B a (w.setCell ⟨g, i, none⟩ u) := k.set (p := ⟨g, i, none⟩) h.other u
theorem Grid.below {B : Nat} {w w' : World} {g : Nat} {ls : Rws} (h : Grid B w g ls) (k : Below w.heap.size w w') : Grid B w' g ls := by
  have hlt := h.lt
  obtain ⟨vs, hr, hv⟩ := h.row
  refine ⟨h.low, vs, hr.below k hlt, fun i hi => ?_⟩
  obtain ⟨a, c, e1, e2⟩ := hv i hi
  exact ⟨a, c, e1, e2.below k⟩
/-- As seen by a call behind. -/
theorem Grid.rs {B : Nat} {w : World} {g : Nat} {ls : Rws} (h : Grid B w g ls) (hm : ls.length ≤ 1000000) : Rs w.heap.size w (some ⟨g, 0, none⟩) ls.length ls := by
  refine ⟨Nat.le_refl _, by unfold maxLen; omega, fun e => (by cases e), .inr ⟨g, 0, rfl, h.lt, fun i hi => ?_⟩⟩
  obtain ⟨a, c, e1, e2⟩ := h.cell hi
  exact ⟨a, c, by rw [Nat.zero_add]; exact e1, Rw.of_sl e2.sl⟩
end Go.Proofs.YtfgaohilpbocbaaGreatDoor
end

section
namespace Go.Proofs.YtfgaohilpbocbaaGreatDoor
open Go.ChangeShapes Go.WideShapes Go.ChangeAt Go.RowKit Go.Joins
set_option linter.unusedVariables false

theorem eqs_no (w : World) : (binOp BinOp.eql 53 (.slice none 0 0) (.slice none 0 0)).run Tryz.prog w = .ok (.bool true) w := by kernel_rfl
theorem eqs_yes (ad : Addr) (n cap : Nat) (w : World) : (binOp BinOp.eql 53 (.slice (some ad) n cap) (.slice none 0 0)).run Tryz.prog w = .ok (.bool false) w := by kernel_rfl

set_option maxRecDepth 100000 in
theorem clone_any (a : Option Addr) (cap : Nat) (l : List Nat) (w : World) (hl : l.length ≤ 100000) (hs : Sl w a cap l) :
    Calls Tryz.prog 60 #[.slice a l.length cap] w fun e w' => ∃ sa sc, e = .returned (.slice sa l.length sc) ∧ Rw 0 w' sa sc l ∧ Below w.heap.size w w' := by
  cases a with
  | none =>
    obtain ⟨rfl, rfl⟩ := hs.none rfl
    have hq := eqs_no w
    have HR : Hid (Rw 0 w none 0 []) := nil_rw 0 w
    clear hs
    go_enter Tryz.func60, Tryz.ntmps60
    go_wp2_with fail
    go_ret
    exact ⟨_, _, rfl, HR.out, Below.refl _ _⟩
  | some ad =>
    have hq := eqs_yes ad l.length cap w
    have HB : Hid (Below w.heap.size w (w.alloc (.cells #[] 5))) := (Below.refl _ _).alloc (Nat.le_refl _) _
    have HS : Hid (Sl (w.alloc (.cells #[] 5)) (some ad) cap l) := hs.below HB.out
    have HE : Hid (Rw 0 (w.alloc (.cells #[] 5)) (some ⟨w.heap.size, 0, none⟩) 0 []) := ⟨⟨by simp [IsByte], by simp, by simp, fun e => (by cases e), .inl rfl⟩, fun h => absurd rfl h⟩
    have hlm := hs.lt
    have hcm : cap ≤ 9223372036854775807 := by have := hs.most; unfold maxLen at this; omega
    clear hs
    go_enter Tryz.func60, Tryz.ntmps60
    go_wp2_with (at_builtin; refine wpList_appB 0 w.heap.size 0 [] (some ad) cap l.length l _ rfl _ _ rfl rfl rfl rfl HE.out rfl HS.out (by omega) hl ?_; intro g2 c2 w2 HR2 hb2)
    have HW := Lib.hid (HB.out.trans (hb2.mono HB.out.size))
    go_ret
    exact ⟨some ⟨g2, 0, none⟩, c2, by simp, by simpa using HR2.out, HW.out⟩
end Go.Proofs.YtfgaohilpbocbaaGreatDoor
end

section
namespace Go.Proofs.YtfgaohilpbocbaaGreatDoor
open Go.ChangeShapes Go.WideShapes Go.ChangeAt Go.RowKit Go.Joins
set_option linter.unusedVariables false

theorem Sl.of_block {w w' : World} {a : Option Addr} {c : Nat} {l : List Nat} (h : Sl w a c l) (k : ∀ p, a = Option.some p → l ≠ [] → w'.heap[p.block]? = w.heap[p.block]?) : Sl w' a c l := by
  refine ⟨h.byte, h.len, h.most, h.none, ?_⟩
  by_cases e : l = []
  · exact .inl e
  · rcases h.here with e' | ⟨b, off, e1, hb⟩
    · exact .inl e'
    · exact .inr ⟨b, off, e1, hb.of_block (by have := k _ e1 e; exact this)⟩
theorem Sl.blk {w : World} {a : Option Addr} {c : Nat} {l : List Nat} (h : Sl w a c l) (p : Addr) (hp : a = Option.some p) (hl : l ≠ []) : p.block < w.heap.size := by
  obtain ⟨b, off, e, hb⟩ := h.some (List.length_pos_iff.2 hl)
  rw [e] at hp
  cases hp
  exact World.block_lt_of_cell? w _ (hb 0 (List.length_pos_iff.2 hl))

/-- Pieces, the newest first, all of them and their bytes in blocks that Y names. -/
def Chain (Y : Nat → Prop) (w : World) : List (List Nat) → Option Addr → Prop
  | [], p => p = none
  | x :: L, p => ∃ g a c p', p = some ⟨g, 0, none⟩ ∧ Y g ∧ w.heap[g]? = some (.cells #[.pointer p', .slice a x.length c] 278 (0, 0)) ∧ Sl w a c x ∧ x ≠ [] ∧ (∀ q, a = some q → Y q.block) ∧ Chain Y w L p'
theorem Chain.keep {Y : Nat → Prop} {w w' : World} (k : ∀ j, Y j → w'.heap[j]? = w.heap[j]?) : ∀ {L : List (List Nat)} {p : Option Addr}, Chain Y w L p → Chain Y w' L p
  | [], p, h => h
  | x :: L, p, ⟨g, a, c, p', h1, h2, h3, h4, h5, h6, h7⟩ => ⟨g, a, c, p', h1, h2, (k g h2).trans h3, h4.of_block fun q hq _ => k _ (h6 q hq), h5, h6, Chain.keep k h7⟩
theorem Chain.mono {Y Z : Nat → Prop} {w : World} (k : ∀ j, Y j → Z j) : ∀ {L : List (List Nat)} {p : Option Addr}, Chain Y w L p → Chain Z w L p
  | [], p, h => h
  | x :: L, p, ⟨g, a, c, p', h1, h2, h3, h4, h5, h6, h7⟩ => ⟨g, a, c, p', h1, k g h2, h3, h4, h5, fun q hq => k _ (h6 q hq), Chain.mono k h7⟩
theorem Chain.few {Y : Nat → Prop} {w : World} : ∀ {L : List (List Nat)} {p : Option Addr}, Chain Y w L p → L.length ≤ L.reverse.flatten.length
  | [], p, h => by simp
  | x :: L, p, ⟨g, a, c, p', h1, h2, h3, h4, h5, h6, h7⟩ => by
    have h := Chain.few h7
    have hx : 0 < x.length := List.length_pos_iff.2 h5
    rw [List.reverse_cons, List.flatten_append, List.length_append]
    simp only [List.length_cons, List.flatten_cons, List.flatten_nil, List.append_nil]
    omega
theorem Chain.bytes {Y : Nat → Prop} {w : World} : ∀ {L : List (List Nat)} {p : Option Addr}, Chain Y w L p → ∀ x ∈ L, IsByte x
  | [], p, h, x, hx => by cases hx
  | y :: L, p, ⟨g, a, c, p', h1, h2, h3, h4, h5, h6, h7⟩, x, hx => by
    rcases List.mem_cons.1 hx with rfl | hx
    · exact h4.byte
    · exact Chain.bytes h7 x hx

/-- The block b is an Out that has got the bytes s (none: it is spoilt), q of them at most, all of it in blocks that X names. -/
def OutAt (X : Nat → Prop) (w : World) (b : Nat) (s : Option (List Nat)) (q : Nat) : Prop :=
  X b ∧ (∀ k, X k → k < w.heap.size) ∧ ∃ p, w.heap[b]? = some (.cells #[.pointer p, .bool s.isNone] 239 (0, 0)) ∧
    ∀ l, s = some l → l.length ≤ q ∧ ∃ Y L, ¬ Y b ∧ (∀ k, Y k → X k) ∧ Chain Y w L p ∧ L.reverse.flatten = l
theorem OutAt.zero (w : World) : OutAt (fun k => k = w.heap.size) (w.alloc (.cells outZ 239)) w.heap.size (some []) 0 := by
  have h0 : (w.alloc (.cells outZ 239)).heap[w.heap.size]? = some (.cells outZ 239 (0, 0)) := heap_alloc_last w _
  refine ⟨rfl, fun k hk => ?_, none, h0, fun l hl => ?_⟩
  · subst hk
    exact (Array.getElem?_eq_some_iff.1 h0).1
  · cases hl
    exact ⟨Nat.le_refl _, fun _ => False, [], id, fun _ h => h.elim, rfl, rfl⟩
theorem OutAt.keep {X Y : Nat → Prop} {w w' : World} {b : Nat} {s : Option (List Nat)} {q : Nat} (h : OutAt X w b s q) (k : Fr Y w w') (hx : ∀ j, X j → ¬ Y j) : OutAt X w' b s q := by
  obtain ⟨h1, h2, p, h3, h4⟩ := h
  refine ⟨h1, fun j hj => Nat.lt_of_lt_of_le (h2 j hj) k.size, p, (k.block b (h2 b h1) (hx b h1)).trans h3, fun l hl => ?_⟩
  obtain ⟨h5, Z, L, h6, h7, h8, h9⟩ := h4 l hl
  exact ⟨h5, Z, L, h6, h7, h8.keep fun j hj => k.block j (h2 j (h7 j hj)) (hx j (h7 j hj)), h9⟩
theorem OutAt.mono {X : Nat → Prop} {w : World} {b : Nat} {s : Option (List Nat)} {q q' : Nat} (h : OutAt X w b s q) (hq : q ≤ q') : OutAt X w b s q' := by
  obtain ⟨h1, h2, p, h3, h4⟩ := h
  refine ⟨h1, h2, p, h3, fun l hl => ?_⟩
  obtain ⟨h5, h6⟩ := h4 l hl
  exact ⟨by omega, h6⟩
theorem OutAt.spoil {X : Nat → Prop} {w : World} {b : Nat} {s : Option (List Nat)} {q q' : Nat} (h : OutAt X w b s q) : OutAt X ((w.setCell ⟨b, 0, none⟩ (.pointer none)).setCell ⟨b, 1, none⟩ (.bool true)) b none q' := by
  obtain ⟨h1, h2, p, h3, h4⟩ := h
  refine ⟨h1, fun k hk => by simpa using h2 k hk, none, ?_, fun l hl => by cases hl⟩
  have e1 := Joins.block_setCell (i := 0) h3 (.pointer none)
  have e2 := Joins.block_setCell (i := 1) e1 (.bool true)
  simpa using e2
theorem OutAt.frame {X : Nat → Prop} {w : World} {b : Nat} {s : Option (List Nat)} {q : Nat} (h : OutAt X w b s q) (i : Nat) (u : Value) {v : World} (k : Fr X w v) : Fr X w (v.setCell ⟨b, i, none⟩ u) := k.set (p := ⟨b, i, none⟩) (fun _ => h.1) u

/-- A piece more. -/
theorem OutAt.add {X : Nat → Prop} {w : World} {b : Nat} {s l : List Nat} {q : Nat} {p a : Option Addr} {c : Nat} (h : OutAt X w b (some s) q) (hp : w.heap[b]? = some (.cells #[.pointer p, .bool false] 239 (0, 0))) (hs : Sl w a c l) (hl : l ≠ []) (hb : ∀ r, a = some r → r.block ≠ b) :
    OutAt (fun k => X k ∨ k = w.heap.size ∨ ∃ r, a = some r ∧ k = r.block) ((w.alloc (.cells #[.pointer p, .slice a l.length c] 278)).setCell ⟨b, 0, none⟩ (.pointer (some ⟨w.heap.size, 0, none⟩))) b (some (s ++ l)) (q + l.length) := by
  obtain ⟨h1, h2, p', h3, h4⟩ := h
  have hbl := h2 b h1
  have hpp : p' = p := by
    rw [h3] at hp
    simpa using hp
  subst hpp
  have e0 : (w.alloc (.cells #[.pointer p', .slice a l.length c] 278)).heap[w.heap.size]? = some (.cells #[.pointer p', .slice a l.length c] 278 (0, 0)) := heap_alloc_last w _
  have hold : ∀ k, k < w.heap.size → k ≠ b → ((w.alloc (.cells #[.pointer p', .slice a l.length c] 278)).setCell ⟨b, 0, none⟩ (.pointer (some ⟨w.heap.size, 0, none⟩))).heap[k]? = w.heap[k]? := fun k hk hne => by
    rw [Below.heap_setCell _ _ _ _ hne, Below.heap_alloc _ _ _ hk]
  have hsz : w.heap.size < (w.alloc (.cells #[.pointer p', .slice a l.length c] 278)).heap.size := (Array.getElem?_eq_some_iff.1 e0).1
  have hblk : ∀ r, a = some r → r.block < w.heap.size := fun r hr => hs.blk r hr hl
  refine ⟨.inl h1, fun k hk => ?_, some ⟨w.heap.size, 0, none⟩, ?_, fun l' hl' => ?_⟩
  · rw [World.size_setCell]
    rcases hk with hk | rfl | ⟨r, hr, rfl⟩
    · exact Nat.lt_trans (h2 k hk) hsz
    · exact hsz
    · exact Nat.lt_trans (hblk r hr) hsz
  · have e1 : (w.alloc (.cells #[.pointer p', .slice a l.length c] 278)).heap[b]? = _ := (Below.heap_alloc _ _ _ hbl).trans h3
    simpa using Joins.block_setCell (i := 0) e1 (.pointer (some ⟨w.heap.size, 0, none⟩))
  · cases hl'
    obtain ⟨h5, Y, L, h6, h7, h8, h9⟩ := h4 s rfl
    refine ⟨by rw [List.length_append]; omega, fun k => Y k ∨ k = w.heap.size ∨ ∃ r, a = some r ∧ k = r.block, l :: L, ?_, fun k hk => hk.imp (h7 k) id, ?_, ?_⟩
    · rintro (h | h | ⟨r, hr, h⟩)
      · exact h6 h
      · omega
      · exact hb r hr h.symm
    · refine ⟨w.heap.size, a, c, p', rfl, .inr (.inl rfl), ?_, hs.of_block fun r hr _ => hold _ (hblk r hr) (hb r hr), hl, fun r hr => .inr (.inr ⟨r, hr, rfl⟩), ?_⟩
      · rw [Below.heap_setCell _ _ _ _ (show w.heap.size ≠ b by omega)]; exact e0
      · refine (h8.keep fun j hj => hold j (h2 j (h7 j hj)) fun e => h6 (e ▸ hj)).mono fun j hj => .inl hj
    · rw [List.reverse_cons, List.flatten_append, h9]
      simp
end Go.Proofs.YtfgaohilpbocbaaGreatDoor
end

section
namespace Go.Proofs.YtfgaohilpbocbaaGreatDoor
open Go.ChangeShapes Go.WideShapes Go.ChangeAt Go.RowKit Go.Joins
set_option linter.unusedVariables false

set_option maxRecDepth 100000 in
theorem sized_any (n : Int) (w : World) (hn : i64R n) : Calls Tryz.prog 167 #[.int .i64 n] w fun e w' => e = .returned (.bool (decide (1 ≤ n ∧ n ≤ 6))) ∧ w = w' := by
  have h1 := hn.1
  have h2 := hn.2
  by_cases g1 : 1 ≤ n
  · have d1 : decide (1 ≤ n) = true := decide_eq_true g1
    by_cases g2 : n ≤ 6
    · have d2 : decide (n ≤ 6) = true := decide_eq_true g2
      have HR : Hid (decide (1 ≤ n ∧ n ≤ 6) = true) := decide_eq_true ⟨g1, g2⟩
      go_enter Tryz.func167, Tryz.ntmps167
      go_wp2_with fail
      go_ret
      exact ⟨ret_bool HR.out.symm, rfl⟩
    · have d2 : decide (n ≤ 6) = false := decide_eq_false g2
      have HR : Hid (decide (1 ≤ n ∧ n ≤ 6) = false) := decide_eq_false fun h => g2 h.2
      clear g1 g2
      go_enter Tryz.func167, Tryz.ntmps167
      go_wp2_with fail
      go_ret
      exact ⟨ret_bool HR.out.symm, rfl⟩
  · have d1 : decide (1 ≤ n) = false := decide_eq_false g1
    have HR : Hid (decide (1 ≤ n ∧ n ≤ 6) = false) := decide_eq_false fun h => g1 h.1
    clear g1
    go_enter Tryz.func167, Tryz.ntmps167
    go_wp2_with fail
    go_ret
    exact ⟨ret_bool HR.out.symm, rfl⟩

set_option maxRecDepth 100000 in
theorem spoil_any (X : Nat → Prop) (w : World) (b : Nat) (s : Option (List Nat)) (q q' : Nat) (h : OutAt X w b s q) :
    Calls Tryz.prog 184 #[.pointer (some ⟨b, 0, none⟩)] w (OutPost OutAt X w b none q') := by
  have HO := Lib.hid (h.spoil (q' := q'))
  have HF := Lib.hid (h.frame 1 (.bool true) (h.frame 0 (.pointer none) (Fr.refl X w)))
  obtain ⟨h1, h2, p, h3, h4⟩ := h
  have c0 := cell_of_block (i := 0) h3
  have c1 := cell_of_block (i := 1) h3
  have f0 := unfrozen_of_block h3 0
  have f1 := unfrozen_of_block h3 1
  simp only [List.getElem?_toArray, List.getElem?_cons_zero, List.getElem?_cons_succ] at c0 c1
  clear h1 h2 h3 h4
  go_enter Tryz.func184, Tryz.ntmps184
  go_wp2_with fail
  go_end0
  exact ⟨rfl, X, HO.out, fun _ h => .inl h, HF.out⟩
set_option maxRecDepth 100000 in
theorem spoil_nil (w : World) : Calls Tryz.prog 184 #[.pointer none] w fun e w' => e = .returned (.tuple #[]) ∧ w = w' := by
  go_enter Tryz.func184, Tryz.ntmps184
  go_wp2_with fail
  go_end0
  exact ⟨rfl, rfl⟩

/-- Bytes that nobody else has are put. -/
def PutPost (X : Nat → Prop) (w : World) (b : Nat) (s : Option (List Nat)) (q : Nat) (a : Option Addr) (e : Ending) (w' : World) : Prop :=
  e = .returned (.tuple #[]) ∧ ∃ X', OutAt X' w' b s q ∧ (∀ k, X' k → X k ∨ w.heap.size ≤ k ∨ ∃ r, a = some r ∧ k = r.block) ∧ Fr X w w'
set_option maxRecDepth 100000 in
theorem put_any (X : Nat → Prop) (w : World) (b : Nat) (s : Option (List Nat)) (q : Nat) (a : Option Addr) (c : Nat) (l : List Nat) (h : OutAt X w b s q) (hs : Sl w a c l) (hb : ∀ r, a = some r → l ≠ [] → r.block ≠ b) :
    Calls Tryz.prog 183 #[.pointer (some ⟨b, 0, none⟩), .slice a l.length c] w (PutPost X w b (addO s (some l)) (q + l.length) a) := by
  have hlm := hs.lt
  have H := Lib.hid h
  obtain ⟨h1, h2, p, h3, h4⟩ := h
  have c0 := cell_of_block (i := 0) h3
  have c1 := cell_of_block (i := 1) h3
  have f0 := unfrozen_of_block h3 0
  simp only [List.getElem?_toArray, List.getElem?_cons_zero, List.getElem?_cons_succ] at c0 c1
  have hbl : b < w.heap.size := h2 b h1
  cases s with
  | none =>
    have HR : Hid (PutPost X w b (addO none (some l)) (q + l.length) a (.returned (.tuple #[])) w) := ⟨rfl, X, H.out.mono (by omega), fun _ h => .inl h, Fr.refl _ _⟩
    clear H h1 h2 h3 h4 hs hb
    simp only [Option.isNone_none] at c1
    go_enter Tryz.func183, Tryz.ntmps183
    go_wp2_with fail
    go_end0
    exact HR.out
  | some m =>
    simp only [Option.isNone_some] at c1
    by_cases h0 : l = []
    · subst h0
      have HR : Hid (PutPost X w b (addO (some m) (some [])) (q + ([] : List Nat).length) a (.returned (.tuple #[])) w) := ⟨rfl, X, by simpa [addO] using H.out, fun _ h => .inl h, Fr.refl _ _⟩
      clear H h1 h2 h3 h4 hs hb
      go_enter Tryz.func183, Tryz.ntmps183
      go_wp2_with fail
      go_end0
      exact HR.out
    · have HO := Lib.hid (H.out.add h3 hs h0 fun r hr => hb r hr h0)
      have HF : Hid (Fr X w ((w.alloc (.cells #[.pointer p, .slice a l.length c] 278)).setCell ⟨b, 0, none⟩ (.pointer (some ⟨w.heap.size, 0, none⟩)))) := H.out.frame 0 _ (Fr.of_below ((Below.refl _ _).alloc (Nat.le_refl _) _))
      rw [World.setCell_alloc_past _ _ _ _ hbl] at HO HF
      have hl0 : ((l.length : Int) == 0) = false := by
        rw [beq_eq_false_iff_ne]
        have := List.length_pos_iff.2 h0
        omega
      have hd0 : decide ((l.length : Int) = 0) = false := decide_eq_false fun e => by
        have := List.length_pos_iff.2 h0
        omega
      clear H h1 h2 h3 h4 hs hb h0
      go_enter Tryz.func183, Tryz.ntmps183
      go_wp2_with fail
      go_end0
      exact ⟨rfl, _, HO.out, fun k hk => by
        rcases hk with h | h | h
        · exact .inl h
        · exact .inr (.inl (by omega))
        · exact .inr (.inr h), HF.out⟩
set_option maxRecDepth 100000 in
theorem put_nil (a : Option Addr) (n c : Nat) (w : World) : Calls Tryz.prog 183 #[.pointer none, .slice a n c] w fun e w' => e = .returned (.tuple #[]) ∧ w = w' := by
  go_enter Tryz.func183, Tryz.ntmps183
  go_wp2_with fail
  refine bodyPost_ret (results_none rfl _ _ _) rfl ?_
  exact ⟨rfl, rfl⟩
end Go.Proofs.YtfgaohilpbocbaaGreatDoor
end

section
namespace Go.Proofs.YtfgaohilpbocbaaGreatDoor
open Go.ChangeShapes Go.WideShapes Go.ChangeAt Go.RowKit Go.Joins
set_option linter.unusedVariables false

theorem pow6 {k : Nat} (h : k ≤ 6) : 256 ^ k ≤ 281474976710656 := by
  have := Nat.pow_le_pow_right (n := 256) (by omega) h
  omega
theorem numN_take {l : List Nat} {k : Nat} (h : k < l.length) : numN (l.take (k + 1)) = numN (l.take k) * 256 + l[k] := by
  rw [List.take_succ_eq_append_getElem h, numN_snoc]
set_option maxRecDepth 100000 in
set_option maxHeartbeats 1000000 in
theorem number_any (a : Option Addr) (cap : Nat) (l : List Nat) (w : World) (hs : Sl w a cap l) (hl : l.length ≤ 6) :
    Calls Tryz.prog 78 #[.slice a l.length cap] w fun e w' => e = .returned (.int .u64 (numN l : Nat)) ∧ w = w' := by
  have HS := Lib.hid hs
  have hlm := hs.lt
  have HL := Lib.hid hl
  have h0 : Hid (numN (l.take 0) = 0) := rfl
  have hbt : Hid (∀ k, k ≤ l.length → numN (l.take k) < 281474976710656) := fun k hk => by
    have h1 := numN_lt (l.take k) fun x hx => hs.byte x (List.mem_of_mem_take hx)
    rw [List.length_take, Nat.min_eq_left hk] at h1
    have := pow6 (Nat.le_trans hk hl)
    omega
  clear hs
  go_enter Tryz.func78, Tryz.ntmps78
  go_wp2_with fail
  go_loop [3, 7] (fun v i => ∃ k q : Nat, k ≤ l.length ∧ v = .int .u64 q ∧ i = .int .i64 k ∧ Hid (numN (l.take k) = q)) (fun _ i => l.length - (intOf i).toNat)
  case atStart => exact ⟨0, 0, by omega, rfl, rfl, h0⟩
  case round =>
    obtain ⟨k, q, hk, rfl, rfl, HT⟩ := hrel
    clear h0
    by_cases hlt : k < l.length
    · obtain ⟨b, off, rfl, hb⟩ := HS.out.some hlt
      have hck := hb k hlt
      have hkz : (k : Int) < (l.length : Int) := by omega
      have hq : q < 281474976710656 := by rw [← HT.out]; exact hbt.out k hk
      have hx : l[k] < 256 := HS.out.byte _ (List.getElem_mem hlt)
      have HN : Hid (numN (l.take (k + 1)) = q * 256 + l[k]) := by show _ = _; rw [numN_take hlt, HT.out]
      have hq2 : q * 256 + l[k] < 281474976710656 := by rw [← HN.out]; exact hbt.out _ hlt
      obtain ⟨x, hxx⟩ : ∃ x, x = l[k] := ⟨_, rfl⟩
      rw [← hxx] at hck hx HN hq2
      clear hxx hb
      go_wp2_with fail
      go_round
      case rel => exact ⟨k + 1, q * 256 + x, by omega, by go_num, by go_num, HN⟩
      case measure => simp [intOf]; omega
    · obtain rfl : k = l.length := by omega
      have HF : Hid (numN l = q) := by
        show _ = _
        rw [← HT.out, List.take_length]
      have hdd : decide ((l.length : Int) < (l.length : Int)) = false := by simp
      have hzz : ¬ (l.length : Int) < (l.length : Int) := by omega
      go_wp2_with fail
      go_ret
      exact ⟨by rw [HF.out]; rfl, rfl⟩

theorem wideN_get : ∀ (n v j : Nat) (h : j < (wideN v n).length), j < n → (wideN v n)[j] = v / 256 ^ (n - 1 - j) % 256
  | 0, _, j, _, hj => by omega
  | n + 1, v, j, h, hj => by
    by_cases e : j = n
    · subst e
      have : (wideN v (j + 1))[j] = v % 256 := by simp [wideN, wideN_len]
      rw [this]; simp
    · have hj2 : j < (wideN (v / 256) n).length := by rw [wideN_len]; omega
      have : (wideN v (n + 1))[j] = (wideN (v / 256) n)[j] := by simp only [wideN]; exact List.getElem_append_left hj2
      rw [this, wideN_get n _ j hj2 (by omega), Nat.div_div_eq_div_mul, show n + 1 - 1 - j = n - 1 - j + 1 by omega, Nat.pow_succ, Nat.mul_comm]
/-- The last k bytes are there. -/
def backV (v n k j : Nat) : Value := if n - k ≤ j then vOf (wideN v n) j else zV j
set_option maxRecDepth 100000 in
set_option maxHeartbeats 1000000 in
theorem wide_any (v n : Nat) (w : World) (hv : v < 18446744073709551616) (hn : n ≤ 6) :
    Calls Tryz.prog 77 #[.int .u64 (v : Int), .int .i64 (n : Int)] w fun e w' => e = .returned (.slice (some ⟨w.heap.size, 0, none⟩) n n) ∧ NewTo w w' (wideN v n) n := by
  have hmk := make_row n (by omega) w
  have HB0 : Hid (Below w.heap.size w (w.alloc (.cells (rowArr n zV) 5))) := (Below.refl _ _).alloc (Nat.le_refl _) _
  have HR0 : Hid (Row (w.alloc (.cells (rowArr n zV) 5)) w.heap.size 5 n n (backV v n 0)) := (Row.new_whole w _ _ zV _ _ rfl rfl).mono (Nat.le_refl _) fun j hj => by
    unfold backV
    rw [if_neg (by omega)]
  obtain ⟨B, hB⟩ : ∃ B, B = w.heap.size := ⟨_, rfl⟩
  obtain ⟨w1, hw1⟩ : ∃ w1, w1 = w.alloc (.cells (rowArr n zV) 5) := ⟨_, rfl⟩
  have HBE := Lib.hid hB
  rw [← hB, ← hw1] at hmk
  rw [← hw1] at HB0 HR0
  rw [← hB] at HR0
  clear hw1 hB
  go_enter Tryz.func77, Tryz.ntmps77
  go_wp2_with fail
  clear hmk
  go_loopw [0, 6] (fun x i wr => ∃ k q : Nat, k ≤ n ∧ x = .int .u64 (q : Int) ∧ i = .int .i64 ((n : Int) - 1 - (k : Int)) ∧ q < 18446744073709551616 ∧ Hid (q = v / 256 ^ k) ∧ Hid (Row wr B 5 n n (backV v n k)) ∧ Hid (Below w.heap.size w wr)) (fun _ i _ => (intOf i + 1).toNat)
  case atStart => exact ⟨0, v, by omega, rfl, by go_num, hv, by show _ = _; simp, HR0, HB0⟩
  case round =>
    obtain ⟨k, q, hk, rfl, rfl, hq, HQ, HR, HB⟩ := hrel
    clear HR0 HB0
    by_cases hlt : k < n
    · obtain ⟨m, hm⟩ : ∃ m : Nat, (n : Int) - 1 - (k : Int) = (m : Int) := ⟨n - 1 - k, by omega⟩
      rw [hm]
      have hmn : m < n := by omega
      have hmz : (m : Int) < (n : Int) := by omega
      have hdd : decide ((0 : Int) ≤ (m : Int)) = true := by simp
      obtain ⟨_, c1⟩ := HR.out.has m hmn
      have f1 := HR.out.loose m
      have hmod : ((q : Int)).tmod 256 = ((q % 256 : Nat) : Int) := by rw [Int.tmod_eq_emod_of_nonneg (by omega)]; omega
      have hdiv : ((q : Int)).tdiv 256 = ((q / 256 : Nat) : Int) := by rw [Int.tdiv_eq_ediv_of_nonneg (by omega)]; omega
      have hr256 : q % 256 < 256 := Nat.mod_lt _ (by omega)
      have hq2 : q / 256 < 18446744073709551616 := by omega
      have HRN : Hid (Row (wr.setCell ⟨B, m, none⟩ (.int .u8 ((q % 256 : Nat) : Int))) B 5 n n (backV v n (k + 1))) := (HR.out.upd m hmn _).mono (Nat.le_refl _) fun j hj => by
        have hnk : n - (k + 1) = m := by omega
        by_cases e : j = m
        · subst e
          have hlen : j < (wideN v n).length := by rw [wideN_len]; exact hj
          simp only [if_true, backV, hnk, Nat.le_refl]
          rw [vOf_eq _ _ hlen, wideN_get n v j hlen hj, HQ.out, show n - 1 - j = k by omega]
        · simp only [e, if_false, backV, hnk]
          by_cases h : n - k ≤ j
          · rw [if_pos h, if_pos (by omega)]
          · rw [if_neg h, if_neg (by omega)]
      have HBN : Hid (Below w.heap.size w (wr.setCell ⟨B, m, none⟩ (.int .u8 ((q % 256 : Nat) : Int)))) := HB.out.setCell (p := ⟨B, m, none⟩) (by rw [← HBE.out]; exact Nat.le_refl _) _
      have HQN : Hid (q / 256 = v / 256 ^ (k + 1)) := by
        show _ = _
        rw [HQ.out, Nat.div_div_eq_div_mul, ← Nat.pow_succ]
      have HM := Lib.hid hm
      clear hm
      go_wp2_with fail
      go_roundw
      case rel => exact ⟨k + 1, q / 256, by omega, by first | rfl | go_num, by have := HM.out; first | (congr 1; omega) | go_num, hq2, HQN, HRN, HBN⟩
      case measure => simp [intOf]
    · obtain rfl : k = n := by omega
      have HN : Hid (NewTo w wr (wideN v k) k) := by
        refine ⟨HB.out, ?_⟩
        rw [← HBE.out, wideN_len]
        exact HR.out.mono (Nat.le_refl _) fun j hj => by unfold backV; rw [if_pos (by omega)]
      have hdd : decide ((0 : Int) ≤ (k : Int) - 1 - (k : Int)) = false := decide_eq_false (by omega)
      have hz : ¬ (0 : Int) ≤ (k : Int) - 1 - (k : Int) := by omega
      go_wp2_with fail
      go_ret
      exact ⟨by rw [← HBE.out]; rfl, HN.out⟩
end Go.Proofs.YtfgaohilpbocbaaGreatDoor
end
