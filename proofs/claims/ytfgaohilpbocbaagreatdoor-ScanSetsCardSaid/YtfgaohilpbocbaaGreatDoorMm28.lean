/-
  Rows of sets, made by append; what Join gathers of a name's own packets it gathers of all.
  maps.Keys over a map from sets' names: an iterator that gives each name once.
  The shelf's contracts on slices.SortFunc, slices.Sort and slices.Compact, laid at this dump.
  slices.SortedFunc over maps.Keys: each set's name once, in order.
-/
import Derived.Test.YtfgaohilpbocbaaGreatDoorMm27
import Derived.Maps.RangeWalk
import Derived.Sort.MapsRangeIn
import Derived.RangeFuncNested
import Derived.RangeFuncBound
import Derived.RangeFuncCalls
import Derived.RangeFuncLeaves
import Derived.RangeFuncFrom
import Derived.Shelf.Abstract
import Derived.Shelf.RegionOpen
import Derived.OwnWalkIn
import Derived.TacticsInMore
import Derived.LoopNIn
import Derived.LoopIn
import Derived.OrdersIn
import Derived.Shelf.SlSortCmp.WholeK
import Derived.Shelf.SlSortCmp.NoneTotal
import Derived.Shelf.SortM.Plain
import Derived.Shelf.Slices.CompactI
import Derived.Test.YtfgaohilpbocbaaGreatDoorRows
import Derived.RangeFuncBox
section
namespace Go.Proofs.YtfgaohilpbocbaaGreatDoor
open Go.ChangeShapes Go.WideShapes Go.ChangeAt Go.RowKit Go.Joins
set_option linter.unusedVariables false

theorem SetAt.fr {w w' : World} {S : St} {fa : Option Addr} {fc : Nat} {sa : Option Addr} {sc : Nat} {X : Nat → Prop} (h : SetAt w S fa fc sa sc) (k : Fr X w w') (h1 : S.files ≠ [] → ∀ q, fa = some q → ¬ X q.block) (h2 : S.slices ≠ [] → ∀ q, sa = some q → ¬ X q.block) : SetAt w' S fa fc sa sc := by
  refine ⟨h.slice, ⟨h.files.rng, h.files.len, h.files.most, ?_⟩, ⟨h.slices.rng, h.slices.len, h.slices.most, ?_⟩⟩
  · by_cases he : S.files = []
    · exact .inl he
    rcases h.files.here with e | ⟨b, off, e, hb, hc⟩
    · exact .inl e
    · refine .inr ⟨b, off, e, Nat.lt_of_lt_of_le hb k.size, fun i hi j hj => ?_⟩
      have hbk : w'.heap[b]? = w.heap[b]? := k.block b hb (h1 he _ e)
      exact (World.cell?_of_block (a := ⟨b, _, none⟩) hbk).trans (hc i hi j hj)
  · by_cases he : S.slices = []
    · exact .inl he
    rcases h.slices.here with e | ⟨b, off, e, hb, hc⟩
    · exact .inl e
    · refine .inr ⟨b, off, e, Nat.lt_of_lt_of_le hb k.size, fun i hi => ?_⟩
      have hbk : w'.heap[b]? = w.heap[b]? := k.block b hb (h2 he _ e)
      obtain ⟨c1, c2, c3⟩ := hc i hi
      exact ⟨(World.cell?_of_block (a := ⟨b, _, none⟩) hbk).trans c1, (World.cell?_of_block (a := ⟨b, _, none⟩) hbk).trans c2, fun j hj => (World.cell?_of_block (a := ⟨b, _, none⟩) hbk).trans (c3 j hj)⟩

def oneW (f : Sw) : List Value := (List.range 3).map (swV f)
def encW (F : List Sw) : List Value := F.flatMap oneW
theorem oneW_len (f : Sw) : (oneW f).length = 3 := by simp [oneW]
theorem oneW_get (f : Sw) {k : Nat} (hk : k < 3) : (oneW f)[k]? = some (swV f k) := by
  unfold oneW
  rw [List.getElem?_map, List.getElem?_range hk]
  rfl
theorem encW_len : ∀ F : List Sw, (encW F).length = F.length * 3
  | [] => rfl
  | x :: l => by
    have := encW_len l
    unfold encW at this ⊢
    simp only [List.flatMap_cons, List.length_append, this, List.length_cons, oneW_len]
    omega
theorem encW_app (l m : List Sw) : encW (l ++ m) = encW l ++ encW m := by simp [encW]
theorem encW_get {l : List Sw} : ∀ {i : Nat} (h : i < l.length) {k : Nat} (hk : k < 3), (encW l)[i * 3 + k]? = some (swV l[i] k) := by
  induction l with
  | nil => intro i h; simp at h
  | cons x l ih =>
    intro i h k hk
    have e : encW (x :: l) = oneW x ++ encW l := rfl
    have hl := oneW_len x
    rw [e]
    cases i with
    | zero =>
      rw [List.getElem?_append_left (by omega), show 0 * 3 + k = k by omega, oneW_get x hk]
      rfl
    | succ i =>
      rw [List.getElem?_append_right (by omega), show (i + 1) * 3 + k - (oneW x).length = i * 3 + k by omega]
      exact ih (by simpa using h) hk
theorem swV_one (f : Sw) (j : Nat) : (swV f j).oneCell' = true := by
  unfold swV setV
  (repeat' split) <;> rfl
theorem encW_one (F : List Sw) : ∀ u ∈ encW F, u.oneCell' = true := fun u hu => by
  obtain ⟨f, _, hu⟩ := List.mem_flatMap.1 hu
  obtain ⟨k, _, rfl⟩ := List.mem_map.1 hu
  exact swV_one f k
/-- A row of them that is made by append. -/
def OwnW (B : Nat) (w : World) (v : Value) (F : List Sw) : Prop := w.ownsRow B 30 3 v F.length (encW F)
theorem OwnW.nil (B : Nat) (w : World) : OwnW B w (.slice none 0 0) [] := World.ownsRow_nil _ _ _ _
theorem OwnW.slice {B : Nat} {w : World} {v : Value} {F : List Sw} (h : OwnW B w v F) : ∃ a c, v = .slice a F.length c ∧ F.length ≤ c ∧ c ≤ maxLen := by
  rcases h.2 with ⟨h1, h2⟩ | ⟨g, cap, cur, h1, h2, h3, h4, h5, h6, h7⟩
  · exact ⟨none, 0, by rw [h1, h2], by omega, by unfold maxLen; omega⟩
  · exact ⟨_, cap, h1, h4, h5⟩
theorem OwnW.at {B : Nat} {w : World} {v : Value} {F : List Sw} (h : OwnW B w v F) {b : Nat} (hb : v.ownBlock = some b) : B ≤ b ∧ b < w.heap.size := by
  rcases h.2 with ⟨rfl, _⟩ | ⟨g, cap, cur, rfl, hB, hh, _⟩
  · simp [Value.ownBlock] at hb
  · have : g = b := by simpa [Value.ownBlock] using hb
    subst this
    exact ⟨hB, (Array.getElem?_eq_some_iff.1 hh).1⟩
theorem OwnW.kept {B : Nat} {w w' : World} {v : Value} {F : List Sw} (h : OwnW B w v F) (k : Below w.heap.size w w') : OwnW B w' v F := by
  refine ⟨h.1, ?_⟩
  rcases h.2 with h0 | ⟨g, cap, cur, e, hB, hh, r⟩
  · exact .inl h0
  · exact .inr ⟨g, cap, cur, e, hB, (k.block g (Array.getElem?_eq_some_iff.1 hh).1).trans hh, r⟩
theorem OwnW.cells {B : Nat} {w : World} {a : Option Addr} {c : Nat} {F : List Sw} (h : OwnW B w (.slice a F.length c) F) {i : Nat} (hi : i < F.length) :
    ∃ g, a = some ⟨g, 0, none⟩ ∧ g < w.heap.size ∧ ∀ k, k < 3 → w.cell? ⟨g, i * 3 + k, none⟩ = some (swV F[i] k) := by
  rcases h.2 with ⟨h1, h2⟩ | ⟨g, cap, cur, h1, h2, h3, h4, h5, h6, h7⟩
  · omega
  · injection h1 with e1 e2 e3
    refine ⟨g, e1, (Array.getElem?_eq_some_iff.1 h3).1, fun k hk => ?_⟩
    rw [cell_of_block h3, ← encW_get hi hk, ← h7, List.getElem?_take_of_lt (by omega), Array.getElem?_toList]
theorem infoW_q : ∃ i z, Tryz.prog.info? 30 = some i ∧ i.zero = some z ∧ z.cells.size = 3 ∧ i.size = 3 ∧ i.bytes = 56 := by
  have h : ((Tryz.prog.info? 30).bind fun i => i.zero.map fun z => (z.cells.size, i.size, i.bytes)) = some (3, 3, 56) := by kernel_rfl
  cases hi : Tryz.prog.info? 30 with
  | none => rw [hi] at h; cases h
  | some i =>
    rw [hi] at h
    simp only [Option.bind_some] at h
    cases hz : i.zero with
    | none => rw [hz] at h; cases h
    | some z =>
      rw [hz] at h
      simp only [Option.map_some, Option.some.injEq, Prod.mk.injEq] at h
      exact ⟨i, z, rfl, hz, h.1, h.2.1, h.2.2⟩
/-- One is appended. -/
theorem wpList_push_w {ops : Array Oper} {rest : List Oper} {o : Oper} {a : Act} {Q : Exit → Act → World → Prop} (w : World) (hgd : o.guard = none) (s x : Operand)
    (ho : o.op = .call { callee := .builtin .append, args := #[s, x], argTypes := #[58, 58] })
    (B : Nat) (v : Value) (l : List Sw) (hs : a.eval s = v) (hown : OwnW B w v l) (g : Nat) (hx : a.eval x = .slice (some ⟨g, 0, none⟩) 1 1)
    (f : Sw) (hc : ∀ k, k < 3 → w.cell? ⟨g, k, none⟩ = some (swV f k)) (hB : B ≤ w.heap.size) (hlen : l.length ≤ 1000000)
    (h : ∀ v' w', Hid (OwnW B w' v' (l ++ [f])) → Hid (w.grownBy w' v.ownBlock) → Hid (v'.ownBlock = v.ownBlock ∨ v'.ownBlock = some w.heap.size) → wpList Tryz.prog ops Q rest (a.put o.dst v') w') : wpList Tryz.prog ops Q (o :: rest) a w := by
  obtain ⟨i0, z, hi, hz0, hzs, hz1, hz2⟩ := infoW_q
  have hn : ∀ j u, (encW [f])[j]? = some u → w.cell? ((⟨g, 0, none⟩ : Addr).add j) = some u := fun j u hj => by
    have hjl : j < 3 := by
      have := (List.getElem?_eq_some_iff.1 hj).1
      rw [encW_len] at this
      simpa using this
    have h1 := encW_get (l := [f]) (i := 0) (by simp) hjl
    rw [show 0 * 3 + j = j by omega, hj] at h1
    rw [addr_add, show 0 + j = j by omega, hc j hjl, Option.some.inj h1]
    rfl
  refine wpList_append_own_at w hgd s x 58 ho B 30 i0 z 3 56 Tryz.underlying58 hi hz0 hz1 hz2 hzs (by decide) v l.length _ hs hown ⟨g, 0, none⟩ 1 1 (encW [f]) hx (by rw [encW_len]; rfl) hn (encW_one [f]) (by unfold maxLen; omega) (by omega) hB ?_
  intro v' w' k1 k2 _ k5
  refine h v' w' ?_ k2 k5
  show OwnW B w' v' (l ++ [f])
  unfold OwnW
  rw [List.length_append, encW_app]
  exact k1
theorem builtS_w1 (V : Nat → Value) : Tryz.prog.builtSlice 30 1 [(0, .agg (rowArr 3 V))] = some (rowArr 3 V) := by kernel_rfl
theorem wpList_buildW {ops : Array Oper} {rest : List Oper} {o : Oper} {a : Act} {w : World} {Q : Exit → Act → World → Prop} (hgd : o.guard = none) (x : Operand) (ho : o.op = .buildSlice 58 1 #[(0, x)]) (V : Nat → Value) (hx : a.eval x = .agg (rowArr 3 V))
    (h : wpList Tryz.prog ops Q rest (a.put o.dst (.slice (some ⟨w.heap.size, 0, none⟩) 1 1)) (w.alloc (.cells (rowArr 3 V) 30))) : wpList Tryz.prog ops Q (o :: rest) a w := by
  refine wpList_plain hgd fun K hK => ?_
  have hf := builtS_w1 V
  unfold Program.builtSlice at hf
  cases hie : Tryz.prog.info? 30 with
  | none => simp [hie] at hf
  | some ie =>
    simp only [hie] at hf
    cases hz : ie.zero with
    | none => simp [hz] at hf
    | some z =>
      simp only [hz] at hf
      by_cases hc : 1 * ie.size > 2 ^ 24 ∨ 1 * ie.size = 0
      · rw [if_pos hc] at hf; cases hf
      · rw [if_neg hc] at hf
        refine wp_buildSlice 58 30 1 _ ho _ ie z Tryz.underlying58 hie hz (fun h' => hc (Or.inl h')) (fun h' => hc (Or.inr h')) ?_ (hK _ _ h)
        simp only [List.map_toArray, List.map_cons, List.map_nil, hx]
        exact hf

/-! Beside it what its sets lie in. -/

def ApartW (v : Value) (x : Sw) : Prop := (x.S.files ≠ [] → ∀ q, x.fa = some q → v.ownBlock ≠ some q.block) ∧ (x.S.slices ≠ [] → ∀ q, x.sa = some q → v.ownBlock ≠ some q.block)
structure WSt (w0 wr : World) (v : Value) (T : List Sw) : Prop where
  own : OwnW w0.heap.size wr v T
  below : Below w0.heap.size w0 wr
  sets : ∀ x ∈ T, (SetAt wr x.S x.fa x.fc x.sa x.sc ∧ (x.sa = none → x.sc = 0)) ∧ ApartW v x
theorem WSt.later {w0 wr w' : World} {v : Value} {T : List Sw} (h : WSt w0 wr v T) (k : Below wr.heap.size wr w') : WSt w0 w' v T :=
  ⟨h.own.kept k, h.below.trans (k.mono h.below.size), fun x hx => ⟨⟨(h.sets x hx).1.1.below k, (h.sets x hx).1.2⟩, (h.sets x hx).2⟩⟩
theorem WSt.push {w0 wr w' : World} {v v' : Value} {T : List Sw} {x : Sw} (h : WSt w0 wr v T) (hx : SetAt wr x.S x.fa x.fc x.sa x.sc) (hn : x.sa = none → x.sc = 0) (ha : ApartW v x)
    (ho : OwnW w0.heap.size w' v' (T ++ [x])) (k : wr.grownBy w' v.ownBlock) (e : v'.ownBlock = v.ownBlock ∨ v'.ownBlock = some wr.heap.size) : WSt w0 w' v' (T ++ [x]) := by
  have hf : Fr (fun b => v.ownBlock = some b) wr w' := Fr.of_grown k fun b hb => hb
  have all : ∀ y ∈ T ++ [x], (SetAt wr y.S y.fa y.fc y.sa y.sc ∧ (y.sa = none → y.sc = 0)) ∧ ApartW v y := fun y hy => by
    rcases List.mem_append.1 hy with h1 | h1
    · exact h.sets y h1
    · rw [List.mem_singleton.1 h1]; exact ⟨⟨hx, hn⟩, ha⟩
  refine ⟨ho, h.below.trans (hf.below h.below.size fun j hj hv => ?_), fun y hy => ⟨⟨?_, (all y hy).1.2⟩, ?_⟩⟩
  · have := (h.own.at hv).1
    omega
  · exact (all y hy).1.1.fr hf (fun hne q hq hb => (all y hy).2.1 hne q hq hb) (fun hne q hq hb => (all y hy).2.2 hne q hq hb)
  · obtain ⟨⟨k1, _⟩, k2, k3⟩ := all y hy
    refine ⟨fun hne q hq hb => ?_, fun hne q hq hb => ?_⟩
    · rcases e with e | e
      · exact k2 hne q hq (e ▸ hb)
      · rcases k1.files.here with h0 | ⟨b, off, e2, hlt, _⟩
        · exact hne h0
        · rw [e2] at hq
          cases hq
          rw [e] at hb
          have h9 : wr.heap.size = b := Option.some.inj hb
          omega
    · rcases e with e | e
      · exact k3 hne q hq (e ▸ hb)
      · rcases k1.slices.here with h0 | ⟨b, off, e2, hlt, _⟩
        · exact hne h0
        · rw [e2] at hq
          cases hq
          rw [e] at hb
          have h9 : wr.heap.size = b := Option.some.inj hb
          omega
theorem WSt.sl {w0 wr : World} {a : Option Addr} {c : Nat} {T : List Sw} (h : WSt w0 wr (.slice a T.length c) T) : SetSl wr a c T := by
  obtain ⟨a', c', e, h1, h2⟩ := h.own.slice
  cases e
  refine ⟨h1, h2, ?_, fun f hf => (h.sets f hf).1⟩
  cases T with
  | nil => exact .inl rfl
  | cons x l =>
    right
    obtain ⟨g, e, hg, _⟩ := h.own.cells (i := 0) (by simp)
    refine ⟨g, 0, e, hg, fun i hi k hk => ?_⟩
    obtain ⟨g', e', _, hc⟩ := h.own.cells hi
    rw [e] at e'
    cases e'
    rw [Nat.zero_add]
    exact hc k hk

/-! Of a name's own packets and of all. -/

theorem fst_ex (F : List Pw) (name : List Nat) : ∀ k, k ≤ F.length → ∃ M, Fst F name k M
  | 0, _ => ⟨[], .zero F name⟩
  | k + 1, h => by
    obtain ⟨M, hM⟩ := fst_ex F name k (by omega)
    have hf : F[k]? = some F[k] := List.getElem?_eq_getElem (by omega)
    by_cases hn : F[k].p.set = name
    · by_cases hx : ∃ v, (partOf F[k].p, v) ∈ M
      · obtain ⟨v, hv⟩ := hx
        exact ⟨M, hM.had hf hv⟩
      · exact ⟨_, hM.add hf hn fun x hx2 e => hx ⟨x.2, by rw [← e]; exact hx2⟩⟩
    · exact ⟨M, hM.skip hf hn⟩
/-- The first of its part. -/
theorem Fst.found {F : List Pw} {name : List Nat} {M : Mp} (h : Fst F name F.length M) {t : Int × Int} {v : Nat} (hv : (t, v) ∈ M) :
    ∃ f, F[v]? = some f ∧ F.find? (fun f => decide (f.p.set = name ∧ partOf f.p = t)) = some f := by
  obtain ⟨f, hl, e1, s1, p1⟩ := h.one _ hv
  refine ⟨f, e1, List.find?_eq_some_iff_getElem.2 ⟨by simp [s1, p1], v, hl, (List.getElem?_eq_some_iff.1 e1).2, fun j hj => ?_⟩⟩
  simp only [Bool.not_eq_eq_eq_not, Bool.not_true, decide_eq_false_iff_not]
  exact fun hh => h.first _ hv j _ hj (List.getElem?_eq_getElem (by omega)) hh.1 hh.2
theorem find_filter {l : List Pw} {q r : Pw → Bool} (h : ∀ x, r x = true → q x = true) : (l.filter q).find? r = l.find? r := by
  induction l with
  | nil => rfl
  | cons x l ih =>
    by_cases hq : q x = true
    · rw [List.filter_cons_of_pos hq, List.find?_cons, List.find?_cons, ih]
    · rw [List.filter_cons_of_neg hq, ih, List.find?_cons]
      have : r x = false := by
        cases hr : r x with
        | false => rfl
        | true => exact absurd (h x hr) hq
      rw [this]
theorem Fst.wide {F : List Pw} {name : List Nat} {M M' : Mp} (h : Fst (F.filter fun f => decide (f.p.set = name)) name (F.filter fun f => decide (f.p.set = name)).length M) (h' : Fst F name F.length M') {t : Int × Int} {v : Nat} (hv : (t, v) ∈ M) {f : Pw} (hf : (F.filter fun f => decide (f.p.set = name))[v]? = some f) :
    ∃ v', (t, v') ∈ M' ∧ F[v']? = some f := by
  obtain ⟨g, e1, e2⟩ := h.found hv
  rw [hf] at e1
  cases e1
  rw [find_filter (fun x hx => by simp only [decide_eq_true_eq] at hx ⊢; exact hx.1)] at e2
  obtain ⟨q, i, hi, e3, _⟩ := List.find?_eq_some_iff_getElem.1 e2
  simp only [decide_eq_true_eq] at q
  obtain ⟨v', hv'⟩ := h'.all i f hi (by rw [List.getElem?_eq_getElem hi, e3]) q.1
  rw [q.2] at hv'
  obtain ⟨g2, e4, e5⟩ := h'.found hv'
  rw [e2] at e5
  cases e5
  exact ⟨v', hv', e4⟩
theorem Got.wide {F : List Pw} {name : List Nat} {M M' : Mp} (h : Fst (F.filter fun f => decide (f.p.set = name)) name (F.filter fun f => decide (f.p.set = name)).length M) (h' : Fst F name F.length M') {sl : Int} {k : Nat} {S : St} (hg : Got (F.filter fun f => decide (f.p.set = name)) M sl k S) : Got F M' sl k S := by
  induction hg with
  | zero => exact .zero
  | next hg ha hb hf hgb ih =>
    obtain ⟨a', ha', fa'⟩ := h.wide h' ha hf
    obtain ⟨b', hb', fb'⟩ := h.wide h' hb hgb
    exact .next ih ha' hb' fa' fb'
theorem Gets.wide {F : List Pw} {name : List Nat} {S : St} (h : Gets (F.filter fun f => decide (f.p.set = name)) name S) : Gets F name S := by
  obtain ⟨M, m0, f0, hM, k1, k2, k3, k4, k5, k6⟩ := h
  obtain ⟨M', hM'⟩ := fst_ex F name F.length (Nat.le_refl _)
  obtain ⟨m', h1, h2⟩ := hM.wide hM' k1 k2
  exact ⟨M', m', f0, hM', h1, h2, k3.wide hM hM', k4, k5, k6⟩
theorem Got.like {F F' : List Pw} (hp : F.map (fun f => f.p) = F'.map (fun f => f.p)) {name : List Nat} {M M' : Mp} (hM : Fst F name F.length M) (hM' : Fst F' name F'.length M') {sl : Int} {k : Nat} {S : St} (hg : Got F M sl k S) : Got F' M' sl k S := by
  induction hg with
  | zero => exact .zero
  | next hg ha hb hf hgb ih =>
    obtain ⟨f', a1, a2⟩ := pk_at hp hf
    obtain ⟨g', b1, b2⟩ := pk_at hp hgb
    have := Got.next ih (hM.same hp hM' ha) (hM.same hp hM' hb) a1 b1
    rw [a2, b2] at this
    exact this
theorem Gets.like {F F' : List Pw} (hp : F.map (fun f => f.p) = F'.map (fun f => f.p)) {name : List Nat} {S : St} (h : Gets F name S) : Gets F' name S := by
  obtain ⟨M, m0, f0, hM, k1, k2, k3, k4, k5, k6⟩ := h
  obtain ⟨M', hM'⟩ := fst_ex F' name F'.length (Nat.le_refl _)
  obtain ⟨f1, e1, p1⟩ := pk_at hp k2
  refine ⟨M', m0, f1, hM', hM.same hp hM' k1, e1, ?_, by rw [p1]; exact k4, k5, k6⟩
  rw [p1]
  exact k3.like hp hM hM'
end Go.Proofs.YtfgaohilpbocbaaGreatDoor
end

section
namespace Go.Proofs.YtfgaohilpbocbaaGreatDoor
open Go.ChangeShapes Go.WideShapes Go.ChangeAt Go.RowKit Go.Joins Go.MapKept
open Go.WideElems (Fit rd rg)
set_option linter.unusedVariables false

theorem wpListIn_store_row {F : Fence} {n : Nat} {ops : Array Oper} {rest : List Oper} {o : Oper} {a : Act} {w : World} {Q : Exit → Act → World → Prop} (hgd : o.guard = none) (ty : TypeId) (x y : Operand) (ho : o.op = .store ty x y)
    (g : Nat) (cells : Array Value) (hx : a.eval x = .pointer (some ⟨g, 0, none⟩)) (hy : a.eval y = .agg cells)
    (t : TypeId) (old : Array Value) (hg : w.heap[g]? = some (.cells old t (0, 0))) (hi : (Tryz.prog.info? ty).map (·.size) = some cells.size) (hold : old.size = cells.size) (h1 : cells.all (·.oneCell') = true)
    (h : ∀ w', Hid (w'.heap[g]? = some (.cells cells t (0, 0))) → Hid (Fr (fun k => k = g) w w') → wpListIn F n Tryz.prog ops Q rest (a.put o.dst undef) w') : wpListIn F n Tryz.prog ops Q (o :: rest) a w := by
  refine wpListIn_plain hgd fun K hK => ?_
  unfold Oper.wpIn
  refine ⟨by simp [Oper.about, ho], ?_⟩
  rw [Oper.semAt_plain F _ _ (by rw [ho]; intro c hc; cases hc)]
  unfold execOp
  simp only [ho, hx, hy, Instr.storeAt, Instr.sureAddr, Sem.run_bind, Sem.run_pure, Result.andThen_ok, run_storeVar_row w g t ty old cells hg hi hold h1]
  exact hK _ _ (h _ (setRow_heap _ _ _ _ _ _ hg) (Fr.setRow (X := fun k => k = g) (Fr.refl _ w) (fun _ => rfl) cells))
theorem wpListIn_load_row {F : Fence} {n : Nat} {ops : Array Oper} {rest : List Oper} {o : Oper} {a : Act} {w : World} {Q : Exit → Act → World → Prop} (hgd : o.guard = none) (ty : TypeId) (x : Operand) (ho : o.op = .load ty x)
    (g : Nat) (v : Value) (hx : a.eval x = .pointer (some ⟨g, 0, none⟩)) (hr : (Instr.loadAt ty (.pointer (some ⟨g, 0, none⟩))).run Tryz.prog w = .ok v w)
    (h : wpListIn F n Tryz.prog ops Q rest (a.put o.dst v) w) : wpListIn F n Tryz.prog ops Q (o :: rest) a w := by
  refine wpListIn_plain hgd fun K hK => ?_
  unfold Oper.wpIn
  refine ⟨by simp [Oper.about, ho], ?_⟩
  rw [Oper.semAt_plain F _ _ (by rw [ho]; intro c hc; cases hc)]
  unfold execOp
  simp only [ho, hx, hr, Sem.run_bind, Sem.run_pure, Result.andThen_ok]
  exact hK _ _ h
theorem run_load_row8 (w : World) (g : Nat) (cs : Array Value) (hg : w.heap[g]? = some (.cells cs 64 (0, 0))) (hs : cs.size = 8) : (Instr.loadAt 64 (.pointer (some ⟨g, 0, none⟩))).run Tryz.prog w = .ok (.agg cs) w := by
  have hi : (Tryz.prog.info? 64).map (·.size) = some cs.size := by rw [hs]; kernel_rfl
  simp only [Instr.loadAt, Instr.sureAddr, Sem.run_bind, Sem.run_pure, Result.andThen_ok]
  exact run_loadVar_row w g 64 64 cs (0, 0) _ hg Tryz.underlying64 rfl hi
theorem nm_one (l : List Nat) : (rowArr 8 (vOf l)).all (·.oneCell') = true := by simp [rowArr, vOf, byteV, Value.oneCell']
/-- So many names that are no two alike, each one of some, are no more than these. -/
theorem few_of_mem {α : Type} [DecidableEq α] : ∀ (l m : List α), l.Nodup → (∀ x ∈ l, x ∈ m) → l.length ≤ m.length
  | [], m, _, _ => Nat.zero_le _
  | a :: l, m, hn, h => by
    have ha := h a (by simp)
    have h2 := List.nodup_cons.1 hn
    have := few_of_mem l (m.erase a) h2.2 fun x hx => (List.mem_erase_of_ne fun (e : x = a) => h2.1 (by rw [← e]; exact hx)).2 (h x (by simp [hx]))
    rw [List.length_erase_of_mem ha] at this
    have hp := List.length_pos_of_mem ha
    simp only [List.length_cons]
    omega
theorem grown_of_new {w2 w3 : World} {o : Obj} (hf : Fr (fun k => k = w2.heap.size) (w2.alloc o) w3) : w2.grownBy w3 none := by
  have hb : Below w2.heap.size w2 (w2.alloc o) := (Below.refl _ _).alloc (Nat.le_refl _) _
  exact ⟨hf.os.trans hb.os, hf.tape.trans hb.tape, hf.output.trans hb.output, Nat.le_trans hb.size hf.size, fun i hi _ => (hf.block i (Nat.lt_of_lt_of_le hi hb.size) (by omega)).trans (hb.block i hi)⟩
theorem keysF_any (mb : Option Nat) (w : World) :
    Calls Tryz.prog 42 #[.map mb] w fun e w' => e = .returned (.func (.func 82) #[] #[.pointer (some ⟨w.heap.size, 0, none⟩)]) ∧ w' = w.alloc (.cells #[.map mb] 103) := by
  have mk : ∀ (fn : Fn) (first cap : Array Value) (w : World), (Instr.makeFunc fn first cap).run Tryz.prog w = .ok (.func fn first cap) w := fun _ _ _ _ => rfl
  go_enter Tryz.func42, Tryz.ntmps42
  go_wp2_with fail
  go_ret
  exact ⟨rfl, rfl⟩
theorem nmKeyed : Maps.Keyed Tryz.prog 64 := Maps.Keyed.of_law nmLaw
/-- The map's block is a map in the library's sense. -/
theorem GrAt.owns {W0 : Nat} {w : World} {b : Nat} {G : List Gx} (h : GrAt W0 w b G) (hl : G.length ≤ 1000) : ∃ D : DataW Unit, w.ownsMap Tryz.prog 64 RT b 1000 D := by
  obtain ⟨es, c, h1, s1, s2, h2⟩ := h.here
  have hlen : es.size = G.length := by
    have := congrArg List.length h2
    simpa using this
  have hkeys : es.toList.map (·.key) = G.map fun x => nmV x.nm := by
    have := congrArg (List.map Prod.fst) h2
    rw [List.map_map, List.map_map] at this
    exact this
  refine ⟨_, es, c, h1, ⟨by unfold maxLen; omega, ⟨s1, s2, ?_⟩, fun x hx => ?_⟩, by omega, rfl⟩
  · rw [hkeys]
    have hnd := h.nd
    have hn := h.nms
    clear h1 s1 s2 h2 hlen hkeys hl
    have : (G.map fun x => nmV x.nm) = (G.map (·.nm)).map nmV := by rw [List.map_map]; rfl
    rw [this]
    refine List.pairwise_map.2 (List.Pairwise.imp_of_mem (fun {a c} ha hc hne e => hne ?_) hnd)
    obtain ⟨x, hx, rfl⟩ := List.mem_map.1 ha
    obtain ⟨y, hy, rfl⟩ := List.mem_map.1 hc
    exact nmV_inj (hn x hx) (hn y hy) e
  · obtain ⟨l, hk⟩ := gr_keys h2 h.nms x hx
    exact ⟨(l, .nil), by simp [rd, hk, RT]⟩
set_option maxRecDepth 100000 in
set_option maxHeartbeats 4000000 in
theorem keys8_in (n l Bm b : Nat) (W0 : Nat) (G : List Gx) (hl : G.length ≤ 1000) (J Jx : List (List Nat) → World → Prop)
    (W : World) (hJ : AbidesFrom W.heap.size J)
    (hY : ∀ pre x W1, J pre W1 → pre.length < G.length → YieldAt Fence.wide (n - 1) Tryz.prog l #[nmV x] W1 fun e W' =>
      (e = .returned (.bool true) ∧ J (pre ++ [x]) W' ∧ KeepsWalks W1 W') ∨ (e = .returned (.bool false) ∧ Jx (pre ++ [x]) W'))
    (hm : W.cell? ⟨Bm, 0, none⟩ = some (.map (some b))) (hg : GrAt W0 W b G) (h0 : J [] W) :
    CallsIn Fence.wide n Tryz.prog 82 #[.func (.yield l) #[] #[], .pointer (some ⟨Bm, 0, none⟩)] W fun e W' => (∃ v, e = .returned v) ∧
      ((∃ ys : List (List Nat), (ys.Nodup ∧ ∀ y ∈ ys, y ∈ G.map (·.nm)) ∧ J ys W') ∨ (∃ pre : List (List Nat), True ∧ Jx pre W')) := by
  have mixed : Tryz.prog.follows .mixedOrders = true := by kernel_rfl
  obtain ⟨D, hown⟩ := hg.owns hl
  refine callsIn_of_wp Tryz.func82 rfl trivial ?_ rfl
  simp only [Tryz.ntmps82, List.size_toArray, List.length_cons, List.length_nil, Nat.reduceAdd, Nat.reduceSub, Array.replicate_succ, Array.replicate_zero, List.push_toArray, List.append_toArray, List.nil_append, List.cons_append]
  gi_wp2_with (gi_at_range; refine wpListIn_range_own _ rfl _ 103 rfl 64 60 nmKeyed Tryz.underlying103 _ b 1000 _ rfl hown ?_; intro w0 hrg0 hg0 hs0)
  go_frame
  have hbl := hg.lt
  obtain ⟨es, clk, he1, he2, he3, he4⟩ := hg.here
  have hb0 : w0.heap[b]? = W.heap[b]? := hg0.block b hbl (by simp)
  gi_loopw [3] (fun _ wr => ∃ (left : Lit → Bool) (cnt : Nat) (ss : List (List Nat)), wr.ranges Tryz.prog 64 RT b W.heap.size 1000 D left cnt ∧ (ss.Nodup ∧ ∀ y ∈ ss, y ∈ G.map (·.nm) ∧ ∀ kl, keyOf Tryz.prog 64 (nmV y) = some kl → left kl = false) ∧ wr.heap[b]? = W.heap[b]? ∧ J ss wr)
    (fun _ wr => wr.rangeLeft b W.heap.size)
  case atStart =>
    exact ⟨_, _, [], hrg0, ⟨List.nodup_nil, fun y hy => (by cases hy)⟩, hb0, hJ [] W w0 none h0 hg0 (fun r e => by cases e)⟩
  case round =>
    obtain ⟨left, cnt, ss, hrg, ⟨hnd, hss⟩, hwb, hJs⟩ := hrel
    gi_wp2_with (gi_at_next; refine wpListIn_next_ranges _ rfl _ rfl 64 nmKeyed RT (id : Value → Value) (id : Value → Value) (fun key kl hk => ⟨key, rfl⟩) (fun v _ _ => ⟨v, rfl⟩) b W.heap.size 1000 _ _ _ rfl hrg ?_ ?_)
    · intro hc0 hl0
      gi_wp2
      go_end0
      exact ⟨⟨_, rfl⟩, .inl ⟨ss, ⟨hnd, fun y hy => (hss y hy).1⟩, hJs⟩⟩
    · intro x c kl yd yp w2 cnt2 hkey hlk hv hat hrg2 hlt hg2 hs2 hen
      have hrgU := hrg
      unfold World.ranges at hrgU
      obtain ⟨es', clk', since, seen, cc, hb', F', _, _, _, _, _, _, hex, _⟩ := hrgU
      have hee : es' = es := by
        have h1 : some (Obj.map es' clk') = some (Obj.map es clk) := hb'.symm.trans (hwb.trans he1)
        have h2 := Option.some.inj h1
        injection h2
      obtain ⟨e0, he0, hk0⟩ := hex kl hlk
      subst hee
      obtain ⟨y0, hy0⟩ := F'.reads e0 he0
      have hkey0 : keyOf Tryz.prog 64 e0.key = some kl := by
        rw [WideElems.rd_key hy0, ← hk0, WideElems.rg_of hy0]
      have hxe : x = e0.key := nmLaw.inj hkey hkey0
      obtain ⟨j, hj⟩ := List.getElem?_of_mem he0
      obtain ⟨g, hgj, hge, _⟩ := gr_get he4 hj
      obtain ⟨y, hyg⟩ : ∃ y, y = g.nm := ⟨_, rfl⟩
      have hxy : x = nmV y := by rw [hxe, hge, hyg]
      have hyG : y ∈ G.map (·.nm) := List.mem_map.2 ⟨g, List.mem_of_getElem? hgj, hyg.symm⟩
      subst hxy
      have hny : y ∉ ss := fun hm => by
        have := (hss y hm).2 kl hkey
        rw [hlk] at this
        cases this
      have hnd2 : (ss ++ [y]).Nodup := List.nodup_append.2 ⟨hnd, by simp, fun p hp q hq e => by
        rw [List.mem_singleton.1 hq] at e
        exact hny (e ▸ hp)⟩
      have hsub : ∀ z ∈ ss ++ [y], z ∈ G.map (·.nm) := fun z hz => by
        rcases List.mem_append.1 hz with hz | hz
        · exact (hss z hz).1
        · rw [List.mem_singleton.1 hz]; exact hyG
      have hlen : ss.length < G.length := by
        have := few_of_mem _ _ hnd2 hsub
        simp only [List.length_append, List.length_map, List.length_cons, List.length_nil] at this
        omega
      have hss2 : ∀ z ∈ ss ++ [y], z ∈ G.map (·.nm) ∧ ∀ k2, keyOf Tryz.prog 64 (nmV z) = some k2 → (left k2 && !k2.sameKey kl) = false := fun z hz => ⟨hsub z hz, fun k2 hk2 => by
        rcases List.mem_append.1 hz with hz | hz
        · rw [(hss z hz).2 k2 hk2]; rfl
        · rw [List.mem_singleton.1 hz] at hk2
          rw [hkey] at hk2
          cases hk2
          rw [WideAt.sameKey_self (nmKeyed.key hkey)]
          simp⟩
      have hJ2 : J ss w2 := hJ ss wr w2 (some W.heap.size) hJs hg2 (fun r e => by cases e; exact ⟨Nat.le_refl _, hrg.iter_walk⟩)
      have hwb2 : w2.heap[b]? = some (.map es' clk) := (hg2.block b (Nat.lt_of_lt_of_le hbl (by
        have := hrg.lt
        omega)) (by simp; omega)).trans (hwb.trans he1)
      have HEN := Lib.hid hen
      have ra : (rowArr 8 (vOf y)).size = 8 := rowArr_size _ _
      clear hs2 hat hv hex hb' F' hyg hge hgj hj hxe hkey0 hy0 hk0 he0
      gi_wp2_with (first
        | (refine wpListIn_store_row rfl 64 _ _ rfl w2.heap.size (rowArr 8 (vOf y)) rfl rfl 64 _ (heap_alloc_last w2 _) (by rw [ra]; kernel_rfl) (by rw [ra]; rfl) (nm_one y) ?_; intro w3 HC3 hf3; have hgr3 := grown_of_new hf3.out; obtain ⟨fn, tmps, assign, body, hyy, hR⟩ := hY ss y w3 (hJ ss w2 w3 none hJ2 hgr3 (fun r e => by cases e)) hlen)
        | (refine wpListIn_load_row rfl 64 _ rfl w2.heap.size (nmV y) rfl (run_load_row8 w3 w2.heap.size _ HC3.out ra) ?_))
      have hkw : KeepsWalks w2 w3 := KeepsWalks.of_grownBy hgr3 (fun j o e => by cases e)
      have HRG := Lib.hid hrg
      have HRG2 := Lib.hid hrg2
      clear hrg hrg2
      refine ⟨fun h => (by cases h), hR.mono ?_⟩
      rintro e W3 (⟨rfl, hJ4, hk4⟩ | ⟨rfl, hJx⟩)
      · gi_wp2
        have hkk := hkw.trans hk4
        have hrg4 := HRG2.out.of_walks hkk
        go_roundw
        case rel => exact ⟨_, cnt2, ss ++ [y], hrg4, ⟨hnd2, hss2⟩, (hkk.same b _ hwb2 rfl).trans he1.symm, hJ4⟩
        case measure => rw [hrg4.left_eq, HRG.out.left_eq]; exact hlt
      · gi_wp2
        refine bodyPost_ret (results_none rfl _ _ _) rfl ?_
        exact ⟨⟨_, rfl⟩, .inr ⟨_, trivial, hJx⟩⟩
theorem keys8_stops (n Bm b W0 : Nat) (G : List Gx) (hl : G.length ≤ 1000) (w : World) (hm : w.cell? ⟨Bm, 0, none⟩ = some (.map (some b))) (hg : GrAt W0 w b G) :
    SeqStopsK Fence.wide n Tryz.prog 82 #[.pointer (some ⟨Bm, 0, none⟩)] (fun x => #[nmV x]) KeepsWalks (fun ys => ys.Nodup ∧ ∀ y ∈ ys, y ∈ G.map (·.nm)) (fun _ => True) G.length w := fun l J Jx W hW hJ hJx hY h0 =>
  keys8_in n l Bm b W0 G hl J Jx W hJ hY ((hW.cell (World.block_lt_of_cell? w _ hm)).trans hm) (hg.later hW) h0
end Go.Proofs.YtfgaohilpbocbaaGreatDoor
end

section
namespace Go.Proofs.YtfgaohilpbocbaaGreatDoor
open Go.Shelf Go.Proofs
def lay_sortF_ren : Go.Shelf.Ren := ⟨fun | 6 => 81 | 15 => 115 | 14 => 118 | 28 => 157 | 29 => 158 | 20 => 159 | 21 => 160 | 22 => 161 | 23 => 162 | 24 => 163 | 25 => 164 | 26 => 165 | 27 => 166 | 46 => 197 | 47 => 192 | 48 => 193 | 49 => 198 | 50 => 199 | 57 => 214 | n => n, fun | 22 => 105 | 24 => 64 | 25 => 110 | 3 => 3 | 39 => 173 | 0 => 0 | 53 => 49 | 55 => 172 | 4 => 4 | 46 => 256 | 45 => 255 | 50 => 119 | 5 => 5 | 9 => 9 | 66 => 286 | 70 => 290 | 76 => 303 | 77 => 47 | n => n, fun | n => n⟩
theorem lay_sortF : Go.Proofs.SlLaysF0.n6 Tryz.prog lay_sortF_ren := {
  mixed := by kernel_rfl
  f6 := ⟨Tryz.f81.name, by decide, Tryz.func81.trans (congrArg some (by kernel_rfl))⟩
  f14 := ⟨Tryz.f118.name, by decide, Tryz.func118.trans (congrArg some (by kernel_rfl))⟩
  f15 := Tryz.func115.trans (congrArg some (by kernel_rfl))
  f20 := ⟨Tryz.f159.name, by decide, Tryz.func159.trans (congrArg some (by kernel_rfl))⟩
  f21 := ⟨Tryz.f160.name, by decide, Tryz.func160.trans (congrArg some (by kernel_rfl))⟩
  f22 := ⟨Tryz.f161.name, by decide, Tryz.func161.trans (congrArg some (by kernel_rfl))⟩
  f23 := ⟨Tryz.f162.name, by decide, Tryz.func162.trans (congrArg some (by kernel_rfl))⟩
  f24 := ⟨Tryz.f163.name, by decide, Tryz.func163.trans (congrArg some (by kernel_rfl))⟩
  f25 := ⟨Tryz.f164.name, by decide, Tryz.func164.trans (congrArg some (by kernel_rfl))⟩
  f26 := ⟨Tryz.f165.name, by decide, Tryz.func165.trans (congrArg some (by kernel_rfl))⟩
  f27 := ⟨Tryz.f166.name, by decide, Tryz.func166.trans (congrArg some (by kernel_rfl))⟩
  f28 := Tryz.func157.trans (congrArg some (by kernel_rfl))
  f29 := Tryz.func158.trans (congrArg some (by kernel_rfl))
  f46 := ⟨Tryz.f197.name, by decide, Tryz.func197.trans (congrArg some (by kernel_rfl))⟩
  f47 := Tryz.func192.trans (congrArg some (by kernel_rfl))
  f48 := Tryz.func193.trans (congrArg some (by kernel_rfl))
  f49 := ⟨Tryz.f198.name, by decide, Tryz.func198.trans (congrArg some (by kernel_rfl))⟩
  f50 := ⟨Tryz.f199.name, by decide, Tryz.func199.trans (congrArg some (by kernel_rfl))⟩
  f57 := ⟨Tryz.f214.name, by decide, Tryz.func214.trans (congrArg some (by kernel_rfl))⟩
  t0 := Tryz.underlying0
  a0 := Tryz.isAgg0
  z0 := Tryz.sizeOf0
  v0 := Tryz.zeroValue0
  t3 := Tryz.underlying3
  a3 := Tryz.isAgg3
  z3 := Tryz.sizeOf3
  v3 := Tryz.zeroValue3
  t4 := Tryz.underlying4
  a4 := Tryz.isAgg4
  z4 := Tryz.sizeOf4
  v4 := Tryz.zeroValue4
  t5 := Tryz.underlying5
  a5 := Tryz.isAgg5
  z5 := Tryz.sizeOf5
  v5 := Tryz.zeroValue5
  t9 := Tryz.underlying9
  a9 := Tryz.isAgg9
  z9 := Tryz.sizeOf9
  v9 := Tryz.zeroValue9
  t22 := Tryz.underlying105
  a22 := Tryz.isAgg105
  z22 := Tryz.sizeOf105
  v22 := Tryz.zeroValue105
  t25 := Tryz.underlying110
  a25 := Tryz.isAgg110
  z25 := Tryz.sizeOf110
  v25 := Tryz.zeroValue110
  t39 := Tryz.underlying173
  a39 := Tryz.isAgg173
  z39 := Tryz.sizeOf173
  v39 := Tryz.zeroValue173
  t45 := Tryz.underlying255
  a45 := Tryz.isAgg255
  z45 := Tryz.sizeOf255
  v45 := Tryz.zeroValue255
  t46 := Tryz.underlying256
  a46 := Tryz.isAgg256
  z46 := Tryz.sizeOf256
  v46 := Tryz.zeroValue256
  t50 := Tryz.underlying119
  a50 := Tryz.isAgg119
  z50 := Tryz.sizeOf119
  v50 := Tryz.zeroValue119
  t53 := Tryz.underlying49
  a53 := Tryz.isAgg49
  z53 := Tryz.sizeOf49
  v53 := Tryz.zeroValue49
  t55 := Tryz.underlying172
  a55 := Tryz.isAgg172
  z55 := Tryz.sizeOf172
  v55 := Tryz.zeroValue172
  t66 := Tryz.underlying286
  a66 := Tryz.isAgg286
  z66 := Tryz.sizeOf286
  v66 := Tryz.zeroValue286
  t70 := Tryz.underlying290
  a70 := Tryz.isAgg290
  z70 := Tryz.sizeOf290
  v70 := Tryz.zeroValue290
  t76 := Tryz.underlying303
  a76 := Tryz.isAgg303
  z76 := Tryz.sizeOf303
  v76 := Tryz.zeroValue303
  t77 := Tryz.underlying47
  a77 := Tryz.isAgg47
  z77 := Tryz.sizeOf47
  v77 := Tryz.zeroValue47 }
def lay_sortI_ren : Go.Shelf.Ren := ⟨fun | 5 => 71 | 8 => 115 | 7 => 114 | 19 => 157 | 20 => 158 | 10 => 148 | 11 => 149 | 12 => 150 | 13 => 151 | 14 => 152 | 15 => 153 | 16 => 154 | 17 => 155 | 18 => 156 | 30 => 191 | 31 => 192 | 32 => 193 | 33 => 194 | 34 => 195 | 35 => 196 | 40 => 213 | n => n, fun | 23 => 90 | 25 => 3 | 3 => 3 | 32 => 173 | 22 => 90 | 0 => 0 | 44 => 49 | 46 => 172 | 4 => 4 | 36 => 256 | 35 => 255 | 41 => 119 | 5 => 5 | 9 => 9 | 53 => 286 | 57 => 290 | 63 => 303 | 64 => 47 | n => n, fun | n => n⟩
theorem lay_sortI : Go.Proofs.SlLaysM.n5 Tryz.prog lay_sortI_ren := {
  mixed := by kernel_rfl
  f5 := ⟨Tryz.f71.name, by decide, Tryz.func71.trans (congrArg some (by kernel_rfl))⟩
  f7 := ⟨Tryz.f114.name, by decide, Tryz.func114.trans (congrArg some (by kernel_rfl))⟩
  f8 := Tryz.func115.trans (congrArg some (by kernel_rfl))
  f10 := ⟨Tryz.f148.name, by decide, Tryz.func148.trans (congrArg some (by kernel_rfl))⟩
  f11 := ⟨Tryz.f149.name, by decide, Tryz.func149.trans (congrArg some (by kernel_rfl))⟩
  f12 := ⟨Tryz.f150.name, by decide, Tryz.func150.trans (congrArg some (by kernel_rfl))⟩
  f13 := ⟨Tryz.f151.name, by decide, Tryz.func151.trans (congrArg some (by kernel_rfl))⟩
  f14 := ⟨Tryz.f152.name, by decide, Tryz.func152.trans (congrArg some (by kernel_rfl))⟩
  f15 := ⟨Tryz.f153.name, by decide, Tryz.func153.trans (congrArg some (by kernel_rfl))⟩
  f16 := ⟨Tryz.f154.name, by decide, Tryz.func154.trans (congrArg some (by kernel_rfl))⟩
  f17 := ⟨Tryz.f155.name, by decide, Tryz.func155.trans (congrArg some (by kernel_rfl))⟩
  f18 := ⟨Tryz.f156.name, by decide, Tryz.func156.trans (congrArg some (by kernel_rfl))⟩
  f19 := Tryz.func157.trans (congrArg some (by kernel_rfl))
  f20 := Tryz.func158.trans (congrArg some (by kernel_rfl))
  f30 := ⟨Tryz.f191.name, by decide, Tryz.func191.trans (congrArg some (by kernel_rfl))⟩
  f31 := Tryz.func192.trans (congrArg some (by kernel_rfl))
  f32 := Tryz.func193.trans (congrArg some (by kernel_rfl))
  f33 := ⟨Tryz.f194.name, by decide, Tryz.func194.trans (congrArg some (by kernel_rfl))⟩
  f34 := ⟨Tryz.f195.name, by decide, Tryz.func195.trans (congrArg some (by kernel_rfl))⟩
  f35 := ⟨Tryz.f196.name, by decide, Tryz.func196.trans (congrArg some (by kernel_rfl))⟩
  f40 := ⟨Tryz.f213.name, by decide, Tryz.func213.trans (congrArg some (by kernel_rfl))⟩
  t0 := Tryz.underlying0
  a0 := Tryz.isAgg0
  z0 := Tryz.sizeOf0
  v0 := Tryz.zeroValue0
  t3 := Tryz.underlying3
  a3 := Tryz.isAgg3
  z3 := Tryz.sizeOf3
  v3 := Tryz.zeroValue3
  t4 := Tryz.underlying4
  a4 := Tryz.isAgg4
  z4 := Tryz.sizeOf4
  v4 := Tryz.zeroValue4
  t5 := Tryz.underlying5
  a5 := Tryz.isAgg5
  z5 := Tryz.sizeOf5
  v5 := Tryz.zeroValue5
  t9 := Tryz.underlying9
  a9 := Tryz.isAgg9
  z9 := Tryz.sizeOf9
  v9 := Tryz.zeroValue9
  t22 := Tryz.underlying90
  a22 := Tryz.isAgg90
  z22 := Tryz.sizeOf90
  v22 := Tryz.zeroValue90
  t23 := Tryz.underlying90
  a23 := Tryz.isAgg90
  z23 := Tryz.sizeOf90
  v23 := Tryz.zeroValue90
  t25 := Tryz.underlying3
  a25 := Tryz.isAgg3
  z25 := Tryz.sizeOf3
  v25 := Tryz.zeroValue3
  t32 := Tryz.underlying173
  a32 := Tryz.isAgg173
  z32 := Tryz.sizeOf173
  v32 := Tryz.zeroValue173
  t35 := Tryz.underlying255
  a35 := Tryz.isAgg255
  z35 := Tryz.sizeOf255
  v35 := Tryz.zeroValue255
  t36 := Tryz.underlying256
  a36 := Tryz.isAgg256
  z36 := Tryz.sizeOf256
  v36 := Tryz.zeroValue256
  t41 := Tryz.underlying119
  a41 := Tryz.isAgg119
  z41 := Tryz.sizeOf119
  v41 := Tryz.zeroValue119
  t44 := Tryz.underlying49
  a44 := Tryz.isAgg49
  z44 := Tryz.sizeOf49
  v44 := Tryz.zeroValue49
  t46 := Tryz.underlying172
  a46 := Tryz.isAgg172
  z46 := Tryz.sizeOf172
  v46 := Tryz.zeroValue172
  t53 := Tryz.underlying286
  a53 := Tryz.isAgg286
  z53 := Tryz.sizeOf286
  v53 := Tryz.zeroValue286
  t57 := Tryz.underlying290
  a57 := Tryz.isAgg290
  z57 := Tryz.sizeOf290
  v57 := Tryz.zeroValue290
  t63 := Tryz.underlying303
  a63 := Tryz.isAgg303
  z63 := Tryz.sizeOf303
  v63 := Tryz.zeroValue303
  t64 := Tryz.underlying47
  a64 := Tryz.isAgg47
  z64 := Tryz.sizeOf47
  v64 := Tryz.zeroValue47 }
def lay_compI_ren : Go.Shelf.Ren := ⟨fun | 20 => 72 | n => n, fun | 22 => 90 | 3 => 3 | 4 => 4 | 0 => 0 | n => n, fun | n => n⟩
theorem lay_compI : Go.Proofs.Lays2.n20 Tryz.prog lay_compI_ren := {
  mixed := by kernel_rfl
  f20 := Tryz.func72.trans (congrArg some (by kernel_rfl))
  t0 := Tryz.underlying0
  a0 := Tryz.isAgg0
  z0 := Tryz.sizeOf0
  v0 := Tryz.zeroValue0
  t3 := Tryz.underlying3
  a3 := Tryz.isAgg3
  z3 := Tryz.sizeOf3
  v3 := Tryz.zeroValue3
  t4 := Tryz.underlying4
  a4 := Tryz.isAgg4
  z4 := Tryz.sizeOf4
  v4 := Tryz.zeroValue4
  t22 := Tryz.underlying90
  a22 := Tryz.isAgg90
  z22 := Tryz.sizeOf90
  v22 := Tryz.zeroValue90
  i3 := by kernel_rfl }
end Go.Proofs.YtfgaohilpbocbaaGreatDoor
end

section
namespace Go.Proofs.YtfgaohilpbocbaaGreatDoor
open Go.ChangeShapes Go.WideShapes Go.ChangeAt Go.RowKit Go.Joins Go.MapKept
set_option linter.unusedVariables false
attribute [local go_sem] Oper.semAt_some

def oneN (y : List Nat) : List Value := (List.range 8).map (vOf y)
def encN (ys : List (List Nat)) : List Value := ys.flatMap oneN
theorem oneN_len (y : List Nat) : (oneN y).length = 8 := by simp [oneN]
theorem oneN_get (y : List Nat) {k : Nat} (hk : k < 8) : (oneN y)[k]? = some (vOf y k) := by
  unfold oneN
  rw [List.getElem?_map, List.getElem?_range hk]
  rfl
theorem oneN_row (y : List Nat) : (oneN y).toArray = rowArr 8 (vOf y) := rfl
theorem encN_len : ∀ ys : List (List Nat), (encN ys).length = ys.length * 8
  | [] => rfl
  | x :: l => by
    have := encN_len l
    unfold encN at this ⊢
    simp only [List.flatMap_cons, List.length_append, this, List.length_cons, oneN_len]
    omega
theorem encN_app (l m : List (List Nat)) : encN (l ++ m) = encN l ++ encN m := by simp [encN]
theorem encN_one (ys : List (List Nat)) : ∀ u ∈ encN ys, u.oneCell' = true := fun u hu => by
  obtain ⟨f, _, hu⟩ := List.mem_flatMap.1 hu
  obtain ⟨k, _, rfl⟩ := List.mem_map.1 hu
  rfl
def OwnN8 (B : Nat) (w : World) (v : Value) (ys : List (List Nat)) : Prop := w.ownsRow B 64 8 v ys.length (encN ys)
theorem info8_q : ∃ i z, Tryz.prog.info? 64 = some i ∧ i.zero = some z ∧ z.cells.size = 8 ∧ i.size = 8 ∧ i.bytes = 8 := by
  have h : ((Tryz.prog.info? 64).bind fun i => i.zero.map fun z => (z.cells.size, i.size, i.bytes)) = some (8, 8, 8) := by kernel_rfl
  cases hi : Tryz.prog.info? 64 with
  | none => rw [hi] at h; cases h
  | some i =>
    rw [hi] at h
    simp only [Option.bind_some] at h
    cases hz : i.zero with
    | none => rw [hz] at h; cases h
    | some z =>
      rw [hz] at h
      simp only [Option.map_some, Option.some.injEq, Prod.mk.injEq] at h
      exact ⟨i, z, rfl, hz, h.1, h.2.1, h.2.2⟩
theorem builtS_8 (V : Nat → Value) : Tryz.prog.builtSlice 64 1 [(0, .agg (rowArr 8 V))] = some (rowArr 8 V) := by kernel_rfl
theorem run_build8 (w : World) (y : List Nat) : (Instr.buildSlice 105 1 #[(0, nmV y)]).run Tryz.prog w = .ok (.slice (some ⟨w.heap.size, 0, none⟩) 1 1) (w.alloc (.cells (rowArr 8 (vOf y)) 64)) := by
  have hf := builtS_8 (vOf y)
  unfold Program.builtSlice at hf
  cases hie : Tryz.prog.info? 64 with
  | none => simp [hie] at hf
  | some ie =>
    simp only [hie] at hf
    cases hz : ie.zero with
    | none => simp [hz] at hf
    | some z =>
      simp only [hz] at hf
      by_cases hc : 1 * ie.size > 2 ^ 24 ∨ 1 * ie.size = 0
      · rw [if_pos hc] at hf; cases hf
      · rw [if_neg hc] at hf
        exact run_buildSlice w 105 64 1 _ _ ie z Tryz.underlying105 hie hz (fun h' => hc (Or.inl h')) (fun h' => hc (Or.inr h')) hf
theorem wpListIn_build8 {F : Fence} {n : Nat} {ops : Array Oper} {rest : List Oper} {o : Oper} {a : Act} {w : World} {Q : Exit → Act → World → Prop} (hgd : o.guard = none) (x : Operand) (ho : o.op = .buildSlice 105 1 #[(0, x)]) (y : List Nat) (hx : a.eval x = nmV y)
    (h : wpListIn F n Tryz.prog ops Q rest (a.put o.dst (.slice (some ⟨w.heap.size, 0, none⟩) 1 1)) (w.alloc (.cells (rowArr 8 (vOf y)) 64))) : wpListIn F n Tryz.prog ops Q (o :: rest) a w := by
  refine wpListIn_plain hgd fun K hK => ?_
  unfold Oper.wpIn
  refine ⟨by simp [Oper.about, ho], ?_⟩
  rw [Oper.semAt_plain F _ _ (by rw [ho]; intro c hc; cases hc)]
  unfold execOp
  simp only [ho, List.map_toArray, List.map_cons, List.map_nil, hx, Sem.run_bind, run_build8 w y, Result.andThen_ok]
  exact hK _ _ h
theorem walks_fr8 {X : Nat → Prop} {W W' : World} (k : Fr X W W') (hX : ∀ b, X b → ∃ cs e, W.heap[b]? = some (.cells cs e (0, 0))) : KeepsWalks W W' :=
  ⟨k.size, fun j o hj ho => (k.block j (Array.getElem?_eq_some_iff.1 hj).1 fun hx => by
    obtain ⟨cs, e, h⟩ := hX j hx
    rw [hj] at h
    cases h
    cases ho).trans hj⟩
theorem from_fr8 {B : Nat} {X : Nat → Prop} {W W' : World} (k : Fr X W W') (hX : ∀ b, X b → ∃ cs e, W.heap[b]? = some (.cells cs e (0, 0))) : KeepsFrom B W W' :=
  ⟨k.size, fun j o _ hj ho => (k.block j (Array.getElem?_eq_some_iff.1 hj).1 fun hx => by
    obtain ⟨cs, e, h⟩ := hX j hx
    rw [hj] at h
    cases h
    cases ho).trans hj⟩
theorem one8_cells {W : World} (x : List Nat) : ∀ j u, (oneN x)[j]? = some u → (W.alloc (.cells (rowArr 8 (vOf x)) 64)).cell? ((⟨W.heap.size, 0, none⟩ : Addr).add j) = some u := fun j u hj => by
  rw [addr_add, Nat.zero_add, cell_of_block (heap_alloc_last W _), ← oneN_row]
  simpa using hj
def mkD8 (D : Nat) : Deferred := { target := .collected D, args := #[] }
/-- What is so between two rounds. -/
def ApI (w : World) (Bs : Nat) (ys : List (List Nat)) (W : World) : Prop := (∃ v, Boxed W Bs 105 v ∧ W.ownsRow w.heap.size 64 8 v ys.length (encN ys) ∧ True) ∧ Below w.heap.size w W
theorem ApI.own {w : World} {Bs B : Nat} (hB : w.heap.size ≤ B) : OwnFrom B (ApI w Bs) :=
  ((holdsRow_own w.heap.size Bs 105 64 8 (fun ys : List (List Nat) => ys.length) encN (fun _ _ => True)).from B).and (ownFrom_below (Nat.le_refl _) hB)
set_option maxRecDepth 100000 in
set_option maxHeartbeats 4000000 in
theorem appendSeq8_any (Bm b W0 : Nat) (G : List Gx) (hl : G.length ≤ 1000) (w : World) (hm : w.cell? ⟨Bm, 0, none⟩ = some (.map (some b))) (hg : GrAt W0 w b G) :
    Calls Tryz.prog 117 #[.slice none 0 0, .func (.func 82) #[] #[.pointer (some ⟨Bm, 0, none⟩)]] w fun e w' =>
      ∃ v ys, e = .returned v ∧ OwnN8 w.heap.size w' v ys ∧ (ys.Nodup ∧ ∀ y ∈ ys, y ∈ G.map (·.nm)) ∧ Below w.heap.size w w' := by
  have mixed : Tryz.prog.follows .mixedOrders = true := by kernel_rfl
  refine (callsIn_wide (n := 5)).1 ?_
  refine callsIn_of_wp_marks Tryz.func117 rfl trivial ?_ rfl
  simp only [Tryz.ntmps117, List.size_toArray, List.length_cons, List.length_nil, Nat.reduceAdd, Nat.reduceSub, Array.replicate_succ, Array.replicate_zero, List.push_toArray, List.append_toArray, List.nil_append, List.cons_append]
  gi_wp2
  have hb1 : Below w.heap.size w (w.alloc (.cells #[.slice none 0 0] 105)) := (Below.refl _ _).alloc (Nat.le_refl _) _
  have hx1 : Boxed (w.alloc (.cells #[.slice none 0 0] 105)) w.heap.size 105 (.slice none 0 0) := Boxed.new w _ _
  obtain ⟨w1, hw1⟩ : ∃ w1, w1 = w.alloc (.cells #[.slice none 0 0] 105) := ⟨_, rfl⟩
  rw [← hw1] at hb1 hx1 ⊢
  have hws : w.heap.size ≤ w1.heap.size := hb1.size
  have hI0 : ApI w w.heap.size [] w1 := ⟨⟨_, hx1, World.ownsRow_nil _ _ _ _, trivial⟩, hb1⟩
  have hm1 : w1.cell? ⟨Bm, 0, none⟩ = some (.map (some b)) := (hb1.cell (World.block_lt_of_cell? w _ hm)).trans hm
  have hg1 := hg.later hb1
  clear hw1 hx1
  refine wpIn_rangeFunc_ownH (w0 := w1) rfl (by omega) (gf := 82) (lb := #[.pointer (some ⟨Bm, 0, none⟩)]) rfl trivial (enters_of Tryz.func82 (by kernel_rfl) rfl)
    (keys8_stops (5 - 1) Bm b W0 G hl w1 hm1 hg1) (fun h k => h.trans k) (fun W l o o' _ ho _ hw => KeepsWalks.putObj o' ho hw) (Below.refl _ _) (fun _ => rfl)
    (ApI w w.heap.size) (fun _ _ _ => False) (ApI.own hws) (fun _ _ _ _ _ hs _ _ => hs) hI0
    (fun x a' W => ∃ g, a' = { tmps := #[.slice none 0 0, .func (.func 82) #[] #[.pointer (some ⟨Bm, 0, none⟩)], .pointer (some ⟨w.heap.size, 0, none⟩), undef, .slice none 0 0, .pointer (some ⟨g, 0, none⟩), .func (.func 82) #[] #[.pointer (some ⟨Bm, 0, none⟩)], nmV x, undef, undef, undef, undef, undef], defers := [] } ∧ W.heap[g]? = some (.cells (rowArr 8 (vOf x)) 64 (0, 0))) ?hAx ?hassign ?hbody ?hdone ?hstop
  case hAx =>
    rintro x a' _ W W' row ⟨g, e, hgg⟩ hgr hrow
    refine ⟨g, e, (hgr.block g (Array.getElem?_eq_some_iff.1 hgg).1 fun er => ?_).trans hgg⟩
    obtain ⟨_, o, ho, hc⟩ := hrow g er.symm
    rw [hgg] at ho
    cases ho
    cases hc
  case hassign =>
    intro l pre x W K hI hK
    have ra : (rowArr 8 (vOf x)).size = 8 := rowArr_size _ _
    gi_wp2_with (refine wpListIn_store_row rfl 64 _ _ rfl W.heap.size (rowArr 8 (vOf x)) rfl rfl 64 _ (heap_alloc_last W _) (by rw [ra]; kernel_rfl) (by rw [ra]; rfl) (nm_one x) ?_; intro w3 HC3 hf3)
    have hgr3 := grown_of_new hf3.out
    have hfr3 : Fr (fun _ => False) W w3 := Fr.of_grown hgr3 fun b e => by cases e
    refine hK _ _ (from_fr8 hfr3 fun _ h => h.elim) (walks_fr8 hfr3 fun _ h => h.elim) ?_ ⟨W.heap.size, rfl, HC3.out⟩
    exact ApI.own (B := w.heap.size) (Nat.le_refl _) pre W w3 none hI hgr3 fun r e => by cases e
  case hbody =>
    rintro l pre x a' W hl1 hl2 hI ⟨g, rfl, hgg⟩ hlen
    obtain ⟨⟨v, hbx, hrow, _⟩, hbw⟩ := hI
    obtain ⟨i0, z, hi, hz0, hzs, hz1, hz2⟩ := info8_q
    have ra : (rowArr 8 (vOf x)).size = 8 := rowArr_size _ _
    have cb := hbx.cell
    have hbs := hbx.lt
    have hne : 105 ≠ 64 := by decide
    have hlW : w.heap.size ≤ W.heap.size := hbw.size
    obtain ⟨qa, qc, rfl, _, _⟩ : ∃ qa qc, v = .slice qa pre.length qc ∧ pre.length ≤ qc ∧ qc ≤ maxLen := by
      rcases hrow.2 with ⟨h1, h2⟩ | ⟨g, cap, cur, h1, h2, h3, h4, h5, h6, h7⟩
      · exact ⟨none, 0, by rw [h1, h2], by omega, by unfold maxLen; omega⟩
      · exact ⟨_, cap, h1, h4, h5⟩
    gi_wp2_with (first
      | (refine wpListIn_load_row rfl 64 _ rfl g (nmV x) rfl (run_load_row8 W g _ hgg ra) ?_)
      | (refine wpListIn_build8 rfl _ rfl x rfl ?_)
      | (gi_at_builtin; refine wpListIn_append_own _ rfl _ _ 105 rfl w.heap.size 64 i0 z 8 8 Tryz.underlying105 hi hz0 hz1 hz2 hzs (by decide) _ pre.length (encN pre) rfl (hrow.alloc _) ⟨W.heap.size, 0, none⟩ 1 1 (oneN x) rfl (oneN_len x) (one8_cells x) (fun u hu => encN_one [x] u (by simpa [encN] using hu)) (by unfold maxLen; omega) (by omega) (by simp; omega) ?_; intro v' w3 hown' hg3 hnil3; have hb3 := (hbx.alloc (.cells (rowArr 8 (vOf x)) 64)).kept hg3 (hbx.not_row hne hrow); have c3 := hb3.cell; have f3 := hb3.frozen; obtain ⟨gq, cq, rfl⟩ := ownsRow_succ hown'))
    have hF : Fr (fun j => j = w.heap.size ∨ (Value.slice qa pre.length qc).ownBlock = some j) W (w3.setCell ⟨w.heap.size, 0, none⟩ (.slice (some ⟨gq, 0, none⟩) (pre.length + 1) cq)) := by
      have f1 : Fr (fun j => j = w.heap.size ∨ (Value.slice qa pre.length qc).ownBlock = some j) W (W.alloc (.cells (rowArr 8 (vOf x)) 64)) := Fr.of_below ((Below.refl _ _).alloc (Nat.le_refl _) _)
      exact (f1.trans (Fr.of_grown hg3 fun b e => .inr e)).set (p := ⟨w.heap.size, 0, none⟩) (fun _ => .inl rfl) _
    have hX : ∀ j, (j = w.heap.size ∨ (Value.slice qa pre.length qc).ownBlock = some j) → ∃ cs e, W.heap[j]? = some (.cells cs e (0, 0)) := fun j hj => by
      rcases hj with rfl | hj
      · exact ⟨_, _, hbx⟩
      · rcases hrow.2 with ⟨h1, _⟩ | ⟨g, cap, cur, h1, _, h3, _⟩
        · rw [h1] at hj; cases hj
        · rw [h1] at hj
          have : g = j := by simpa [Value.ownBlock] using hj
          subst this
          exact ⟨_, _, h3⟩
    refine ⟨from_fr8 hF hX, walks_fr8 hF hX, ⟨_, hb3.set _, ?_, trivial⟩, hbw.trans (hF.below hbw.size fun j hj hX => ?_)⟩
    · rw [encN_app, show (pre ++ [x]).length = pre.length + 1 by simp, show encN [x] = oneN x by simp [encN]]
      exact hown'.kept (grownBy_setCell' _ _ _) (.inr fun e => hb3.not_row hne hown' e.symm)
    · rcases hX with h | h
      · omega
      · rcases hrow.2 with ⟨h1, _⟩ | ⟨g, cap, cur, h1, h2, h3, _⟩
        · rw [h1] at h; cases h
        · rw [h1] at h
          have : g = j := by simpa [Value.ownBlock] using h
          omega
  case hdone =>
    intro D xs W hD hS hI hd
    obtain ⟨⟨v, hbx, hrow, _⟩, hbw⟩ := hI
    have cb := hbx.cell
    obtain ⟨qa, qc, rfl, _, _⟩ : ∃ qa qc, v = .slice qa xs.length qc ∧ xs.length ≤ qc ∧ qc ≤ maxLen := by
      rcases hrow.2 with ⟨h1, h2⟩ | ⟨g, cap, cur, h1, h2, h3, h4, h5, h6, h7⟩
      · exact ⟨none, 0, by rw [h1, h2], by omega, by unfold maxLen; omega⟩
      · exact ⟨_, cap, h1, h4, h5⟩
    gi_wp2
    refine ⟨by simp, .inl ⟨D, W.putObj D (.deferred none), rfl, run_takeDeferred hd, ?_⟩⟩
    have hf : Fr (fun b => b = D) W (W.putObj D (.deferred none)) := Fr.of_grown (grownBy_putObj' W D (.deferred none)) fun b hb => by cases hb; rfl
    refine ⟨_, results_tmp rfl _ _ _, ?_⟩
    have hlW : w.heap.size ≤ w1.heap.size := hb1.size
    exact ⟨_, xs, rfl, ownsRow_putObj hrow _ hd rfl, hS, hbw.trans (hf.below hbw.size fun j hj hX => by omega)⟩
  case hstop =>
    intro D c pre W _ _ h
    exact h.elim
end Go.Proofs.YtfgaohilpbocbaaGreatDoor
end
