/-
  Cells (a place and a number): lists of them in memory; package row's Cells.
-/
import Derived.Test.YtgfcpneblkleiaaMat
namespace Go.Proofs.Ytgfcpneblkleiaa
open Go.ChangeShapes Go.WideShapes Go.ChangeAt Go.RowKit Go.Joins
set_option linter.unusedVariables false

abbrev Cs := List (Nat × Nat)
theorem getC {l : Cs} {k : Nat} (h : k < l.length) : l.getD k (0, 0) = l[k] := by simp [List.getD, h]
def encP (l : Cs) : List Value := l.flatMap fun p => [.int .i64 (p.1 : Int), .int .u8 (p.2 : Int)]
theorem encP_len : ∀ l : Cs, (encP l).length = l.length * 2
  | [] => rfl
  | x :: l => by
    have := encP_len l
    unfold encP at this ⊢
    simp only [List.flatMap_cons, List.length_append, this, List.length_cons]
    simp; omega
theorem encP_app (l m : Cs) : encP (l ++ m) = encP l ++ encP m := by simp [encP]
theorem encP_get {l : Cs} : ∀ {i : Nat} (h : i < l.length), (encP l)[i * 2]? = some (.int .i64 ((l[i].1 : Nat) : Int)) ∧ (encP l)[i * 2 + 1]? = some (.int .u8 ((l[i].2 : Nat) : Int)) := by
  induction l with
  | nil => intro i h; simp at h
  | cons x l ih =>
    intro i h
    have e : encP (x :: l) = [.int .i64 (x.1 : Int), .int .u8 (x.2 : Int)] ++ encP l := rfl
    rw [e]
    cases i with
    | zero => exact ⟨rfl, rfl⟩
    | succ i =>
      have := ih (i := i) (by simpa using h)
      simp only [List.getElem_cons_succ]
      refine ⟨?_, ?_⟩
      · rw [List.getElem?_append_right (by simp; omega), show (i + 1) * 2 - [Value.int .i64 (x.1 : Int), .int .u8 (x.2 : Int)].length = i * 2 by simp; omega]; exact this.1
      · rw [List.getElem?_append_right (by simp; omega), show (i + 1) * 2 + 1 - [Value.int .i64 (x.1 : Int), .int .u8 (x.2 : Int)].length = i * 2 + 1 by simp; omega]; exact this.2

theorem infoP : (Try.prog.info? 47).map (fun i => (i.zero, i.size, i.bytes)) = some (some (.agg #[.int .i64 0, .int .u8 0]), 2, 16) := by kernel_rfl
theorem info_p {z : Value} {s b : Nat} {t : TypeId} (h : (Try.prog.info? t).map (fun i => (i.zero, i.size, i.bytes)) = some (some z, s, b)) : ∃ i, Try.prog.info? t = some i ∧ i.zero = some z ∧ i.size = s ∧ i.bytes = b := by
  cases hi : Try.prog.info? t with
  | none => rw [hi] at h; cases h
  | some i =>
    rw [hi] at h
    simp only [Option.map_some, Option.some.injEq, Prod.mk.injEq] at h
    exact ⟨i, rfl, h.1, h.2.1, h.2.2⟩

/-- The slice '.slice a l.length cap' reads as these cells; they lie from block B on. -/
structure Ct (B : Nat) (w : World) (a : Option Addr) (cap : Nat) (l : Cs) : Prop where
  len : l.length ≤ cap
  most : cap ≤ maxLen
  none : a = none → l = []
  here : l = [] ∨ ∃ b, a = some ⟨b, 0, Option.none⟩ ∧ B ≤ b ∧ b < w.heap.size ∧ ∀ i (h : i < l.length), w.cell? ⟨b, i * 2, Option.none⟩ = some (.int .i64 ((l[i].1 : Nat) : Int)) ∧ w.cell? ⟨b, i * 2 + 1, Option.none⟩ = some (.int .u8 ((l[i].2 : Nat) : Int))
theorem Ct.lt {B : Nat} {w : World} {a : Option Addr} {cap : Nat} {l : Cs} (h : Ct B w a cap l) : l.length ≤ 9223372036854775807 := by
  have h1 := h.len; have h2 := h.most; unfold maxLen at h2; omega
theorem Ct.some {B : Nat} {w : World} {a : Option Addr} {cap : Nat} {l : Cs} (h : Ct B w a cap l) {k : Nat} (hk : k < l.length) : ∃ b, a = some ⟨b, 0, Option.none⟩ ∧ B ≤ b ∧ b < w.heap.size ∧ w.cell? ⟨b, k * 2, Option.none⟩ = some (.int .i64 ((l[k].1 : Nat) : Int)) ∧ w.cell? ⟨b, k * 2 + 1, Option.none⟩ = some (.int .u8 ((l[k].2 : Nat) : Int)) := by
  rcases h.here with rfl | ⟨b, e, hB, hb, hc⟩
  · simp at hk
  · exact ⟨b, e, hB, hb, hc k hk⟩
theorem Ct.of_block {B : Nat} {w w' : World} {a : Option Addr} {cap : Nat} {l : Cs} (h : Ct B w a cap l) (hs : w.heap.size ≤ w'.heap.size) (hb : ∀ b, B ≤ b → b < w.heap.size → w'.heap[b]? = w.heap[b]?) : Ct B w' a cap l := by
  refine ⟨h.len, h.most, h.none, ?_⟩
  rcases h.here with e | ⟨b, e, hB, hlt, hc⟩
  · exact .inl e
  · refine .inr ⟨b, e, hB, by omega, fun i hi => ?_⟩
    have e1 := World.cell?_of_block (w := w) (w' := w') (a := ⟨b, i * 2, Option.none⟩) (hb b hB hlt)
    have e2 := World.cell?_of_block (w := w) (w' := w') (a := ⟨b, i * 2 + 1, Option.none⟩) (hb b hB hlt)
    rw [e1, e2]; exact hc i hi
theorem Ct.below {B : Nat} {w w' : World} {a : Option Addr} {cap : Nat} {l : Cs} (h : Ct B w a cap l) (k : Below w.heap.size w w') : Ct B w' a cap l := h.of_block k.size fun b _ hb => k.block b hb

/-- A slice of cells that this call makes, by append. -/
def OwnP (B : Nat) (w : World) (v : Value) (l : Cs) : Prop := w.ownsRow B 47 2 v l.length (encP l)
theorem OwnP.nil (B : Nat) (w : World) : OwnP B w (.slice none 0 0) [] := World.ownsRow_nil _ _ _ _
theorem OwnP.below {B : Nat} {w w' : World} {v : Value} {l : Cs} (h : OwnP B w v l) (k : Below w.heap.size w w') : OwnP B w' v l := by
  refine World.ownsRow.kept (row := none) h ⟨k.os, k.tape, k.output, k.size, fun j hj _ => k.block j hj⟩ ?_
  cases hv : v.ownBlock with
  | none => exact .inl rfl
  | some g => exact .inr (by simp)
theorem OwnP.form {B : Nat} {w : World} {v : Value} {l : Cs} (h : OwnP B w v l) : ∃ a cap, v = .slice a l.length cap ∧ Ct B w a cap l := by
  rcases h.2 with ⟨rfl, hn⟩ | ⟨g, cap, cur, rfl, hb, hh, h1, h2, h3, h4⟩
  · have : l = [] := List.eq_nil_of_length_eq_zero hn
    subst this
    exact ⟨none, 0, rfl, by simp, by simp, fun _ => rfl, .inl rfl⟩
  · refine ⟨_, cap, rfl, h1, h2, fun e => (by cases e), .inr ⟨g, rfl, hb, (Array.getElem?_eq_some_iff.1 hh).1, fun i hi => ?_⟩⟩
    have hc := World.ownsRow.cells (v := .slice (some ⟨g, 0, none⟩) l.length cap) h (g := g) rfl
    have hadd : ∀ j, (⟨g, 0, none⟩ : Addr).add j = ⟨g, j, none⟩ := fun j => by
      by_cases j0 : j = 0
      · subst j0; simp [Addr.add]
      · simp [Addr.add, j0]
    obtain ⟨e1, e2⟩ := encP_get hi
    have c1 := hc _ _ e1
    have c2 := hc _ _ e2
    rw [hadd] at c1 c2
    exact ⟨c1, c2⟩
theorem OwnP.lower {A B : Nat} {w : World} {v : Value} {l : Cs} (h : OwnP B w v l) (k : A ≤ B) : OwnP A w v l := by
  refine ⟨h.1, ?_⟩
  rcases h.2 with e | ⟨g, cap, cur, e, hb, r⟩
  · exact .inl e
  · exact .inr ⟨g, cap, cur, e, by omega, r⟩
theorem OwnP.push_below {B : Nat} {w w' : World} {v : Value} {l : Cs} (h : OwnP B w v l) (hg : w.grownBy w' v.ownBlock) (hB : B ≤ w.heap.size) : Below B w w' :=
  ⟨hg.os, hg.tape, hg.output, hg.size, fun k hk => hg.block k (by omega) fun e => by
    have := (World.ownsRow.lt h k e.symm).1; omega⟩

theorem wpList_push_cell {ops : Array Oper} {rest : List Oper} {o : Oper} {a : Act} {Q : Exit → Act → World → Prop} (w : World) (hgd : o.guard = none) (s x : Operand)
    (ho : o.op = .call { callee := .builtin .append, args := #[s, x], argTypes := #[44, 44] })
    (B : Nat) (v : Value) (l : Cs) (hs : a.eval s = v) (hown : OwnP B w v l) (g : Nat) (hx : a.eval x = .slice (some ⟨g, 0, none⟩) 1 1)
    (p q : Nat) (h0 : w.cell? ⟨g, 0, none⟩ = some (.int .i64 (p : Int))) (h1 : w.cell? ⟨g, 1, none⟩ = some (.int .u8 (q : Int))) (hB : B ≤ w.heap.size) (hlen : l.length ≤ 1000000)
    (h : ∀ v' w', Hid (OwnP B w' v' (l ++ [(p, q)])) → Hid (Below B w w') → wpList Try.prog ops Q rest (a.put o.dst v') w') : wpList Try.prog ops Q (o :: rest) a w := by
  obtain ⟨i0, hi, hz0, hz1, hz2⟩ := info_p infoP
  have hn : ∀ j u, [Value.int .i64 (p : Int), .int .u8 (q : Int)][j]? = some u → w.cell? ((⟨g, 0, none⟩ : Addr).add j) = some u := fun j u hj => by
    match j, hj with
    | 0, hj => simp at hj; subst hj; simpa [Addr.add] using h0
    | 1, hj => simp at hj; subst hj; simpa [Addr.add] using h1
  refine wpList_append_own w hgd s x 44 ho B 47 i0 (.agg #[.int .i64 0, .int .u8 0]) 2 16 Try.underlying44 hi hz0 hz1 hz2 rfl (by decide) v l.length _ hs hown ⟨g, 0, none⟩ 1 1 [.int .i64 (p : Int), .int .u8 (q : Int)] hx rfl hn (by simp [Value.oneCell']) (by unfold maxLen; omega) (by omega) hB ?_
  intro v' w' k1 k2 _
  refine h v' w' ?_ (hown.push_below k2 hB)
  show OwnP B w' v' (l ++ [(p, q)])
  unfold OwnP
  rw [List.length_append, encP_app]
  exact k1

/-- The first k numbers that aren't 0. -/
def cellsTo (l : List Nat) (k : Nat) : Cs := (List.range k).filterMap fun i => if l.getD i 0 = 0 then none else some (i, l.getD i 0)
theorem cellsTo_zero {l : List Nat} {k : Nat} (h : l.getD k 0 = 0) : cellsTo l (k + 1) = cellsTo l k := by
  unfold cellsTo
  rw [List.range_succ, List.filterMap_append]
  simp only [List.filterMap_cons, List.filterMap_nil, h, if_true, List.append_nil]
theorem cellsTo_more {l : List Nat} {k : Nat} (h : l.getD k 0 ≠ 0) : cellsTo l (k + 1) = cellsTo l k ++ [(k, l.getD k 0)] := by
  unfold cellsTo
  rw [List.range_succ, List.filterMap_append]
  simp only [List.filterMap_cons, List.filterMap_nil, h, if_false]
theorem cellsTo_len (l : List Nat) (k : Nat) : (cellsTo l k).length ≤ k := by
  unfold cellsTo
  exact Nat.le_trans (List.length_filterMap_le _ _) (by simp)

def CellsPost (l : Cs) (w : World) (e : Ending) (w' : World) : Prop := ∃ v, e = .returned v ∧ OwnP w.heap.size w' v l ∧ Below w.heap.size w w'

set_option maxHeartbeats 800000 in
theorem cells_any (a : Option Addr) (cap : Nat) (l : List Nat) (w : World) (hl : l.length ≤ 1000000) (hs : Sl w a cap l) :
    Calls Try.prog 19 #[.slice a l.length cap] w (CellsPost (cellsTo l l.length) w) := by
  have HS := Lib.hid hs
  have HO0 : Hid (OwnP w.heap.size w (.slice none 0 0) (cellsTo l 0)) := OwnP.nil _ _
  have HB0 : Hid (Below w.heap.size w w) := Below.refl _ _
  clear hs
  go_enter Try.func19, Try.ntmps19
  go_wp2_with fail
  go_loopw [3, 8] (fun v i wr => ∃ k : Nat, k ≤ l.length ∧ i = .int .i64 k ∧ Hid (OwnP w.heap.size wr v (cellsTo l k)) ∧ Hid (Below w.heap.size w wr)) (fun _ i _ => l.length - (intOf i).toNat)
  case atStart => exact ⟨0, by omega, rfl, HO0, HB0⟩
  case round =>
    obtain ⟨k, hk, rfl, HO, HB⟩ := hrel
    by_cases hlt : k < l.length
    · obtain ⟨b, off, rfl, hb⟩ := (HS.out.below HB.out).some hlt
      have hck := hb k hlt
      have hx : l[k] < 256 := HS.out.byte _ (List.getElem_mem hlt)
      have HZ : Hid (l[k] = 0 → cellsTo l (k + 1) = cellsTo l k) := fun e => cellsTo_zero (by rw [getD_get hlt]; exact e)
      have HM : Hid (l[k] ≠ 0 → cellsTo l (k + 1) = cellsTo l k ++ [(k, l[k])]) := fun e => by rw [cellsTo_more (by rw [getD_get hlt]; exact e), getD_get hlt]
      have hlen : (cellsTo l k).length ≤ 1000000 := by have := cellsTo_len l k; omega
      generalize l[k] = x at *
      clear hb
      by_cases hx0 : x = 0
      · have hz : ((x : Int) != 0) = false := by subst hx0; rfl
        have HE := Lib.hid (HZ.out hx0)
        clear HZ HM hx0 HO0 HB0
        go_wp2_with fail
        go_roundw
        case rel => exact ⟨k + 1, by omega, by go_num, by rw [HE.out]; exact HO, HB⟩
        case measure => simp [intOf]; omega
      · have hz : ((x : Int) != 0) = true := by simp; omega
        have HE := Lib.hid (HM.out hx0)
        clear HZ HM hx0 HO0 HB0
        go_wp2_with (at_builtin; refine wpList_push_cell _ rfl _ _ rfl w.heap.size _ _ rfl (HO.out.below ((Below.refl _ _).alloc (Nat.le_refl _) _)) wr.heap.size rfl k x (by simp) (by simp) (by have := HB.out.size; simp; omega) hlen ?_; intro v' w2 HO2 HB2)
        have HB3 : Hid (Below w.heap.size w w2) := (HB.out.alloc HB.out.size _).trans HB2.out
        clear HB2
        go_roundw
        case rel => exact ⟨k + 1, by omega, by go_num, by rw [HE.out]; exact HO2, HB3⟩
        case measure => simp [intOf]; omega
    · obtain rfl : k = l.length := by omega
      go_wp2_with fail
      go_ret
      exact ⟨_, rfl, HO.out, HB.out⟩
end Go.Proofs.Ytgfcpneblkleiaa
