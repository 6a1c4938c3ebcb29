/-
  slices.Chunk over bytes: what it hands its loop's body.
  A map from a packet's kind and index: its look-ups, its entries.
  Package packet's Join: what it is to gather, plainly; the set that is being gathered, in memory.
  What package cut's Make has in memory: a set that is being made, and a slice of slices beside it; what a step keeps.
  Files and what is known of slices, built: one of each, and rows of one.
  What lies in memory between two slices of a file, as package cut's Make makes them.
  A statement that leaves its order open, within a round of a range over a function: what is shown outside of a round (GrowK) serves within one. Nothing of the program's dump is named here.
-/
import Derived.Test.YtcopjbapglndgaaGreatDoorMr18
import Derived.RangeFuncNested
import Derived.RangeFuncBound
import Derived.RangeFuncCalls
import Derived.RangeFuncLeaves
import Derived.Shelf.Abstract
import Derived.Shelf.RegionOpen
import Derived.WalkKit
import Derived.OwnWalkIn
import Derived.TacticsInMore
import Derived.LoopNIn
import Derived.LoopIn
import Derived.DeepKeys3
import Derived.WideKeyMaps2
import Derived.RangeFuncBox
import Derived.OrdersIn
import Derived.TacticsIn
section
namespace Go.Proofs.YtcopjbapglndgaaGreatDoor
open Go.ChangeShapes Go.WideShapes Go.ChangeAt Go.RowKit Go.Joins Go.Shelf
set_option linter.unusedVariables false

attribute [local go_sem] Oper.semAt_some

/-- What the t-th round is handed. -/
def encC (g off : Nat) (b : List Nat) (s t : Nat) : Array Value := #[.slice (some ⟨g, off + t * s, none⟩) (chunkAt b s t).length (chunkAt b s t).length]
/-- What a round keeps that goes on: the two boxes. -/
def KeepC (bx bn : Nat) (W W' : World) : Prop := W.heap.size ≤ W'.heap.size ∧ W'.heap[bx]? = W.heap[bx]? ∧ W'.heap[bn]? = W.heap[bn]?
theorem KeepC.refl (bx bn : Nat) (W : World) : KeepC bx bn W W := ⟨Nat.le_refl _, rfl, rfl⟩
theorem KeepC.trans {bx bn : Nat} {A B C : World} (h : KeepC bx bn A B) (k : KeepC bx bn B C) : KeepC bx bn A C := ⟨Nat.le_trans h.1 k.1, k.2.1.trans h.2.1, k.2.2.trans h.2.2⟩
theorem elemBy : Tryz.prog.elem 35 = 5 := by kernel_rfl
theorem undBy : Tryz.prog.underlying 35 = some (.slice (Tryz.prog.elem 35)) := by rw [elemBy]; exact Tryz.underlying35
theorem sizeBy (w : World) : (sizeOf 5).run Tryz.prog w = .ok 1 w := by kernel_rfl
theorem grown_drew (W : World) : W.grownBy W.drew none := ⟨rfl, rfl, rfl, Nat.le_refl _, fun _ _ _ => rfl⟩
theorem bytes_from (a : Option Addr) (N c p : Nat) (hp : p ≤ N) (hN : N ≤ c) : ∃ A1, ∀ W, (Instr.slice 35 (.slice a N c) (some (.int .i64 (p : Int))) none none).run Tryz.prog W = .ok (.slice A1 (N - p) (c - p)) W := by
  refine ⟨if c = p then a else a.map (·.add (p * 1)), fun W => ?_⟩
  rw [run_slice_l W 35 a N c undBy .i64 _ (by omega) (by omega), elemBy, sizeBy]
  simp only [Result.andThen, sliced, Int.toNat_natCast]
theorem bytes_cut (g off N c p m : Nat) (hm : 0 < m) (hp : p + m ≤ N) (hN : N ≤ c) : ∀ W, (Instr.slice 35 (.slice (some ⟨g, off, none⟩) N c) (some (.int .i64 (p : Int))) (some (.int .i64 ((p : Int) + (m : Int)))) (some (.int .i64 ((p : Int) + (m : Int))))).run Tryz.prog W = .ok (.slice (some ⟨g, off + p, none⟩) m m) W := fun W => by
  rw [run_slice_lhm W 35 (some ⟨g, off, none⟩) N c undBy .i64 .i64 .i64 _ _ _ (by omega) (by omega) (by omega) (by omega), elemBy, sizeBy]
  simp only [Result.andThen, sliced, Int.toNat_natCast, show ((p : Int) + (m : Int)).toNat = p + m by omega]
  rw [if_neg (by omega), show p + m - p = m by omega]
  simp [addr_add]

set_option maxRecDepth 100000 in
set_option maxHeartbeats 4000000 in
theorem chunk1_in (n : Nat) (l bx bn : Nat) (g off c : Nat) (a : Option Addr) (b : List Nat) (S : Nat) (hb : b.length ≤ 30000) (h1 : 1 ≤ S) (h2 : S ≤ 256) (hbc : b.length ≤ c) (hcm : c ≤ 9223372036854775807) (ha : b = [] ∨ a = some ⟨g, off, none⟩) (J Jx : List Nat → World → Prop)
    (hJ : ∀ pre W, J pre W → J pre W.drew)
    (hY : ∀ pre x W, J pre W → pre.length < cntN b.length S → YieldAt Fence.wide (n - 1) Tryz.prog l (encC g off b S x) W fun e W' =>
      (e = .returned (.bool true) ∧ J (pre ++ [x]) W' ∧ KeepC bx bn W W') ∨ (e = .returned (.bool false) ∧ Jx (pre ++ [x]) W'))
    (W : World) (hbx : W.cell? ⟨bx, 0, none⟩ = some (.slice a b.length c)) (hbn : W.cell? ⟨bn, 0, none⟩ = some (.int .i64 (S : Int))) (h0 : J [] W) :
    CallsIn Fence.wide n Tryz.prog 44 #[.func (.yield l) #[] #[], .pointer (some ⟨bx, 0, none⟩), .pointer (some ⟨bn, 0, none⟩)] W fun e W' => (∃ v, e = .returned v) ∧
      ((∃ ys, ys = List.range (cntN b.length S) ∧ J ys W') ∨ (∃ pre, (∃ k, k ≤ cntN b.length S ∧ pre = List.range k) ∧ Jx pre W')) := by
  have mixed : Tryz.prog.follows .mixedOrders = true := by kernel_rfl
  refine callsIn_of_wp Tryz.func44 rfl trivial ?_ rfl
  simp only [Tryz.ntmps44, List.size_toArray, List.length_cons, List.length_nil, Nat.reduceAdd, Nat.reduceSub, Array.replicate_succ, Array.replicate_zero, List.push_toArray, List.append_toArray, List.nil_append, List.cons_append]
  obtain ⟨N, hN⟩ : ∃ N, N = b.length := ⟨_, rfl⟩
  have HNE := Lib.hid hN
  rw [← hN] at hbx hb hbc
  clear hN
  have HM : Hid (∀ i, i < cntN (N : Int) (S : Int) ↔ i * S < N) := fun i => cnt_lt h1 h2
  gi_wp2
  gi_loopw [4] (fun i wr => ∃ k : Nat, k ≤ cntN (N : Int) (S : Int) ∧ i = .int .i64 ((k * S : Nat) : Int) ∧ J (List.range k) wr ∧ KeepC bx bn W wr)
    (fun i _ => 30000 + 256 - (intOf i).toNat)
  case atStart => exact ⟨0, Nat.zero_le _, by simp, h0, KeepC.refl _ _ _⟩
  case round =>
    obtain ⟨k, hk, rfl, hJs, hnx⟩ := hrel
    have c0 : wr.cell? ⟨bx, 0, none⟩ = some (.slice a N c) := (World.cell?_of_block (a := ⟨bx, 0, none⟩) hnx.2.1).trans hbx
    have c1 : wr.cell? ⟨bn, 0, none⟩ = some (.int .i64 (S : Int)) := (World.cell?_of_block (a := ⟨bn, 0, none⟩) hnx.2.2).trans hbn
    by_cases hlt : k < cntN (N : Int) (S : Int)
    · have hkS := (HM.out k).1 hlt
      obtain ⟨fn, tmps, assign, body, hy, hR⟩ := hY _ k wr.drew (hJ _ _ hJs) (by rw [List.length_range, ← HNE.out]; exact hlt)
      obtain ⟨m, hme⟩ : ∃ m, m = (chunkAt b S k).length := ⟨_, rfl⟩
      obtain ⟨p, hp⟩ : ∃ p, p = k * S := ⟨_, rfl⟩
      have hmm : m = min S (N - p) := by rw [hme, chunkAt_len, hp, HNE.out]
      have e : encC g off b S k = #[.slice (some ⟨g, off + p, none⟩) m m] := by unfold encC; rw [← hme, ← hp]
      rw [e] at hy
      have ha2 : a = some ⟨g, off, none⟩ := by
        rcases ha with h | h
        · rw [h] at HNE; have := HNE.out; simp at this; omega
        · exact h
      subst ha2
      rw [← hp] at hkS
      obtain ⟨A1, hs1⟩ := bytes_from (some ⟨g, off, none⟩) N c p (by omega) hbc
      have hs3 := bytes_cut g off N c p m (by omega) (by omega) hbc
      obtain ⟨r, hr⟩ : ∃ r, r = N - p := ⟨_, rfl⟩
      rw [← hr] at hs1 hmm
      have hmin : min (S : Int) (r : Int) = (m : Int) := by omega
      have hpm : p + m ≤ 30000 := by omega
      have HPX : Hid (p + S = (k + 1) * S) := by show _ = _; rw [Nat.add_mul, Nat.one_mul, hp]
      have hmS : m ≤ S := by omega
      rw [← hp]
      have hpl : p < 30000 := by omega
      have HPK := Lib.hid hp
      have HKL := Lib.hid hlt
      have hpN : p < N := hkS
      clear hmm e hme hkS hp hr hlt
      gi_wp2
      refine wpIn_wide.2 ?_
      go_big_region_o
      gi_wp2
      refine ⟨fun h => (by cases h), hR.mono ?_⟩
      rintro e W3 (⟨rfl, hJ3, hk3⟩ | ⟨rfl, hJx3⟩)
      · have hnx3 := hnx.trans (KeepC.trans (⟨Nat.le_refl _, rfl, rfl⟩ : KeepC bx bn wr wr.drew) hk3)
        have d1 : W3.cell? ⟨bn, 0, none⟩ = some (.int .i64 (S : Int)) := (World.cell?_of_block (a := ⟨bn, 0, none⟩) hnx3.2.2).trans hbn
        clear c0 c1 hbx hbn hs1 hs3
        gi_wp2
        go_roundw
        case rel => exact ⟨k + 1, by have := HKL.out; omega, by rw [← HPX.out]; go_num, by rw [List.range_succ]; exact hJ3, hnx3⟩
        case measure => simp [intOf]; omega
      · gi_wp2
        refine bodyPost_ret (results_none rfl _ _ _) rfl ?_
        exact ⟨⟨_, rfl⟩, .inr ⟨_, ⟨k + 1, by rw [← HNE.out]; have := HKL.out; omega, (List.range_succ).symm⟩, hJx3⟩⟩
    · have hkS : ¬ k * S < N := fun h => hlt ((HM.out k).2 h)
      obtain rfl : k = cntN (N : Int) (S : Int) := by omega
      obtain ⟨p, hp⟩ : ∃ p, p = cntN (N : Int) (S : Int) * S := ⟨_, rfl⟩
      rw [← hp] at hkS ⊢
      have hpz : ¬ (p : Int) < (N : Int) := by omega
      gi_wp2
      go_end0
      first
        | exact ⟨⟨_, rfl⟩, .inl ⟨_, rfl, by rw [← HNE.out]; exact hJs⟩⟩
        | exact ⟨⟨_, rfl⟩, .inl (by rw [← HNE.out]; exact hJs)⟩
set_option maxHeartbeats 1000000 in
theorem chunk_any (a : Option Addr) (len cap S : Nat) (h1 : 1 ≤ S) (h2 : S ≤ 256) (w : World) :
    Calls Tryz.prog 21 #[.slice a len cap, .int .i64 (S : Int)] w fun e w' => e = .returned (.func (.func 44) #[] #[.pointer (some ⟨w.heap.size, 0, none⟩), .pointer (some ⟨w.heap.size + 1, 0, none⟩)]) ∧ w' = (w.alloc (.cells #[.slice a len cap] 35)).alloc (.cells #[.int .i64 (S : Int)] 3) := by
  have d1 : decide ((S : Int) < 1) = false := decide_eq_false (by omega)
  have d2 : ¬ (S : Int) < 1 := by omega
  have mk : ∀ (fn : Fn) (first cap : Array Value) (w : World), (Instr.makeFunc fn first cap).run Tryz.prog w = .ok (.func fn first cap) w := fun _ _ _ _ => rfl
  go_enter Tryz.func21, Tryz.ntmps21
  go_wp2_with fail
  go_ret
  exact ⟨rfl, rfl⟩
theorem chunk_stops (n : Nat) (bx bn : Nat) (g off c : Nat) (a : Option Addr) (b : List Nat) (S : Nat) (hb : b.length ≤ 30000) (h1 : 1 ≤ S) (h2 : S ≤ 256) (hbc : b.length ≤ c) (hcm : c ≤ 9223372036854775807) (ha : b = [] ∨ a = some ⟨g, off, none⟩)
    (w : World) (hbx : w.cell? ⟨bx, 0, none⟩ = some (.slice a b.length c)) (hbn : w.cell? ⟨bn, 0, none⟩ = some (.int .i64 (S : Int))) :
    SeqStopsK Fence.wide n Tryz.prog 44 #[.pointer (some ⟨bx, 0, none⟩), .pointer (some ⟨bn, 0, none⟩)] (encC g off b S) (KeepC bx bn) (fun ys => ys = List.range (cntN b.length S)) (fun pre => ∃ k, k ≤ cntN b.length S ∧ pre = List.range k) (cntN b.length S) w := fun l J Jx W hW hJ hJx hY h0 => by
  have hlt : ∀ {p : Addr} {u : Value}, w.cell? p = some u → W.cell? p = some u := fun {p u} h => (hW.cell (World.block_lt_of_cell? w _ h)).trans h
  exact chunk1_in n l bx bn g off c a b S hb h1 h2 hbc hcm ha J Jx (fun pre W h => hJ pre W W.drew none h (grown_drew W) (fun r e => by cases e)) hY W (hlt hbx) (hlt hbn) h0
end Go.Proofs.YtcopjbapglndgaaGreatDoor
end

section
namespace Go.Proofs.YtcopjbapglndgaaGreatDoor
open Go.ChangeShapes Go.WideShapes Go.ChangeAt Go.RowKit Go.Joins Go.MapKept
set_option linter.unusedVariables false

def keyV (k : Int × Int) : Value := .agg #[.int .i64 k.1, .int .i64 k.2]
def keyR (k : Int × Int) : Prop := i64R k.1 ∧ i64R k.2
theorem keyV_inj {a b : Int × Int} (h : keyV a = keyV b) : a = b := by
  unfold keyV at h
  injection h with h
  have h2 := congrArg Array.toList h
  simp at h2
  exact Prod.ext h2.1 h2.2
abbrev Mp := List ((Int × Int) × Nat)
def entV (x : (Int × Int) × Nat) : Value × Value := (keyV x.1, .int .i64 (x.2 : Int))
structure MpAt (w : World) (b : Nat) (M : Mp) : Prop where
  here : ∃ es clock, w.heap[b]? = some (.map es clock) ∧ es.toList.map (fun e => (e.key, e.val)) = M.map entV
  rng : ∀ x ∈ M, keyR x.1
theorem MpAt.new (w : World) : MpAt (w.alloc (.map #[] 0)) w.heap.size [] := ⟨⟨#[], 0, heap_alloc_last w _, rfl⟩, fun x hx => (by cases hx)⟩
theorem MpAt.lt {w : World} {b : Nat} {M : Mp} (h : MpAt w b M) : b < w.heap.size := by
  obtain ⟨es, c, h1, _⟩ := h.here
  exact (Array.getElem?_eq_some_iff.1 h1).1
theorem MpAt.fr {w w' : World} {b : Nat} {M : Mp} {X : Nat → Prop} (h : MpAt w b M) (k : Fr X w w') (hX : ¬ X b) : MpAt w' b M := by
  have hl := h.lt
  obtain ⟨es, c, h1, h2⟩ := h.here
  exact ⟨⟨es, c, (k.block b hl hX).trans h1, h2⟩, h.rng⟩
theorem wpList_mapUp {ops : Array Oper} {rest : List Oper} {o : Oper} {a : Act} {w : World} {Q : Exit → Act → World → Prop} (hgd : o.guard = none) (t : TypeId) (m x y : Operand) (ho : o.op = .mapUpdate t m x y)
    (mv kv v : Value) (hm : a.eval m = mv) (hx : a.eval x = kv) (hy : a.eval y = v) (w' : World) (hr : (Instr.mapUpdate t mv kv v).run Tryz.prog w = .ok () w')
    (h : wpList Tryz.prog ops Q rest (a.put o.dst undef) w') : wpList Tryz.prog ops Q (o :: rest) a w := by
  refine wpList_plain hgd fun K hK => ?_
  unfold Oper.wp execOp
  simp only [ho, hm, hx, hy, Sem.run_bind, Sem.run_pure, hr, Result.andThen_ok]
  exact hK _ _ h
theorem wpList_look {ops : Array Oper} {rest : List Oper} {o : Oper} {a : Act} {w : World} {Q : Exit → Act → World → Prop} (hgd : o.guard = none) (t : TypeId) (m x : Operand) (c : Bool) (ho : o.op = .lookup t m x c)
    (mv kv v : Value) (hm : a.eval m = mv) (hx : a.eval x = kv) (hr : (Instr.lookup t mv kv c).run Tryz.prog w = .ok v w)
    (h : wpList Tryz.prog ops Q rest (a.put o.dst v) w) : wpList Tryz.prog ops Q (o :: rest) a w := by
  refine wpList_plain hgd fun K hK => ?_
  unfold Oper.wp execOp
  simp only [ho, hm, hx, Sem.run_bind, Sem.run_pure, hr, Result.andThen_ok]
  exact hK _ _ h
/-- A key's two cells. -/
def kvV (k : Int × Int) (j : Nat) : Value := if j = 0 then .int .i64 k.1 else .int .i64 k.2
theorem keyV_row (k : Int × Int) : keyV k = .agg (rowArr 2 (kvV k)) := rfl

/-! Which packets of a set come first. -/

def partOf (p : Pk) : Int × Int := (p.kind, if p.kind = 1 then 0 else p.index)
theorem part_rng {p : Pk} (h : PkIn p) : keyR (partOf p) := by
  unfold partOf keyR
  refine ⟨h.kind, ?_⟩
  simp only
  split
  · exact i64R_small 0 (by decide)
  · exact h.index
structure Fst (F : List Pw) (name : List Nat) (k : Nat) (M : Mp) : Prop where
  one : ∀ x ∈ M, ∃ f, x.2 < k ∧ F[x.2]? = some f ∧ f.p.set = name ∧ partOf f.p = x.1
  all : ∀ i f, i < k → F[i]? = some f → f.p.set = name → ∃ v, (partOf f.p, v) ∈ M
  nd : (M.map (·.1)).Nodup
theorem Fst.zero (F : List Pw) (name : List Nat) : Fst F name 0 [] := ⟨fun x hx => (by cases hx), fun i f hi => (by omega), List.nodup_nil⟩
theorem Fst.skip {F : List Pw} {name : List Nat} {k : Nat} {M : Mp} (h : Fst F name k M) {f : Pw} (hf : F[k]? = some f) (hn : f.p.set ≠ name) : Fst F name (k + 1) M :=
  ⟨fun x hx => by obtain ⟨g, h1, h2⟩ := h.one x hx; exact ⟨g, by omega, h2⟩, fun i g hi hg hs => by
    by_cases e : i = k
    · subst e; rw [hf] at hg; cases hg; exact absurd hs hn
    · exact h.all i g (by omega) hg hs, h.nd⟩
theorem Fst.had {F : List Pw} {name : List Nat} {k : Nat} {M : Mp} (h : Fst F name k M) {f : Pw} (hf : F[k]? = some f) {v : Nat} (hv : (partOf f.p, v) ∈ M) : Fst F name (k + 1) M :=
  ⟨fun x hx => by obtain ⟨g, h1, h2⟩ := h.one x hx; exact ⟨g, by omega, h2⟩, fun i g hi hg hs => by
    by_cases e : i = k
    · subst e; rw [hf] at hg; cases hg; exact ⟨v, hv⟩
    · exact h.all i g (by omega) hg hs, h.nd⟩
theorem Fst.add {F : List Pw} {name : List Nat} {k : Nat} {M : Mp} (h : Fst F name k M) {f : Pw} (hf : F[k]? = some f) (hn : f.p.set = name) (hno : ∀ x ∈ M, x.1 ≠ partOf f.p) : Fst F name (k + 1) (M ++ [(partOf f.p, k)]) := by
  refine ⟨fun x hx => ?_, fun i g hi hg hs => ?_, ?_⟩
  · rcases List.mem_append.1 hx with hx | hx
    · obtain ⟨g, h1, h2⟩ := h.one x hx; exact ⟨g, by omega, h2⟩
    · simp only [List.mem_singleton] at hx
      subst hx
      exact ⟨f, by show k < k + 1; omega, hf, hn, rfl⟩
  · by_cases e : i = k
    · subst e; rw [hf] at hg; cases hg; exact ⟨i, by simp⟩
    · obtain ⟨v, hv⟩ := h.all i g (by omega) hg hs
      exact ⟨v, List.mem_append_left _ hv⟩
  · rw [List.map_append, List.nodup_append]
    refine ⟨h.nd, by simp, fun a ha b hb => ?_⟩
    simp only [List.map_cons, List.map_nil, List.mem_singleton] at hb
    subst hb
    obtain ⟨x, hx, rfl⟩ := List.mem_map.1 ha
    exact hno x hx
end Go.Proofs.YtcopjbapglndgaaGreatDoor
end

section
namespace Go.Proofs.YtcopjbapglndgaaGreatDoor
open Go.ChangeShapes Go.WideShapes Go.ChangeAt Go.RowKit Go.Joins
set_option linter.unusedVariables false

inductive Got (F : List Pw) (M : Mp) (sl : Int) : Nat → St → Prop
  | zero : Got F M sl 0 ⟨sl, [], []⟩
  | next {k : Nat} {S : St} {a b : Nat} {f g : Pw} (h : Got F M sl k S) (ha : ((2, (k : Int)), a) ∈ M) (hb : ((3, (k : Int)), b) ∈ M) (hf : F[a]? = some f) (hg : F[b]? = some g) :
      Got F M sl (k + 1) ⟨sl, S.files ++ [f.p.file], S.slices ++ g.p.sums⟩
structure GotIn (F : List Pw) (sl : Int) (k : Nat) (S : St) : Prop where
  slice : S.slice = sl
  files : S.files.length = k
  few : k ≤ F.length
  most : S.slices.length ≤ 100 * k
  fok : ∀ x ∈ S.files, FilOk x
  sok : ∀ x ∈ S.slices, SmOk x
theorem Got.ids {F : List Pw} {M : Mp} {sl : Int} {name : List Nat} {k : Nat} {S : St} (hF : Fst F name F.length M) (h : Got F M sl k S) :
    ∃ l : List Nat, l.length = k ∧ l.Nodup ∧ ∀ x ∈ l, x < F.length ∧ ∃ j : Nat, j < k ∧ ((2, (j : Int)), x) ∈ M := by
  induction h with
  | zero => exact ⟨[], rfl, List.nodup_nil, fun x hx => (by cases hx)⟩
  | @next k S a b f g h ha hb hf hg ih =>
    obtain ⟨l, h1, h2, h3⟩ := ih
    have hal := (List.getElem?_eq_some_iff.1 hf).1
    refine ⟨l ++ [a], by simp [h1], ?_, fun x hx => ?_⟩
    · rw [List.nodup_append]
      refine ⟨h2, by simp, fun x hx y hy => ?_⟩
      simp only [List.mem_singleton] at hy
      subst hy
      rintro rfl
      obtain ⟨_, j, hj, hm⟩ := h3 x hx
      obtain ⟨f1, _, e1, _, p1⟩ := hF.one _ ha
      obtain ⟨f2, _, e2, _, p2⟩ := hF.one _ hm
      simp only at e1 e2 p1 p2
      rw [e1] at e2
      cases e2
      rw [p1] at p2
      have := congrArg Prod.snd p2
      simp only at this
      omega
    · rcases List.mem_append.1 hx with hx | hx
      · obtain ⟨q1, j, hj, hm⟩ := h3 x hx
        exact ⟨q1, j, by omega, hm⟩
      · simp only [List.mem_singleton] at hx
        subst hx
        exact ⟨hal, k, by omega, ha⟩
theorem Got.okIn {F : List Pw} {M : Mp} {sl : Int} {name : List Nat} {k : Nat} {S : St} (hF : Fst F name F.length M) (hok : ∀ f ∈ F, PkIn f.p) (hsm : ∀ f ∈ F, f.p.set = name → f.p.sums.length ≤ 100) (h : Got F M sl k S) : GotIn F sl k S := by
  obtain ⟨l, l1, l2, l3⟩ := h.ids hF
  have hfew : k ≤ F.length := by rw [← l1]; exact pigeon _ _ l2 fun x hx => (l3 x hx).1
  clear l1 l2 l3
  induction h with
  | zero => exact ⟨rfl, rfl, Nat.zero_le _, Nat.le_refl _, fun x hx => (by cases hx), fun x hx => (by cases hx)⟩
  | @next k S a b f g h ha hb hf hg ih =>
    obtain ⟨i1, i2, i3, i4, i5, i6⟩ := ih (by omega)
    have mf : f ∈ F := List.mem_of_getElem? hf
    have mg : g ∈ F := List.mem_of_getElem? hg
    obtain ⟨g', _, e1, s1, _⟩ := hF.one _ hb
    simp only at e1
    rw [hg] at e1
    cases e1
    have hgs := hsm g mg s1
    refine ⟨rfl, by simp [i2], hfew, ?_, fun x hx => ?_, fun x hx => ?_⟩
    · simp only [List.length_append]; omega
    · simp only [List.mem_append, List.mem_singleton] at hx
      rcases hx with hx | rfl
      · exact i5 x hx
      · exact (hok f mf).file
    · simp only [List.mem_append] at hx
      rcases hx with hx | hx
      · exact i6 x hx
      · exact (hok g mg).sums x hx
def sv3 (z : Int) (fv sv : Value) (j : Nat) : Value := if j = 0 then .int .i64 z else if j = 1 then fv else sv
def zSetA : Array Value := #[.int .i64 0, .slice none 0 0, .slice none 0 0]
structure JoinSt (wq wr : World) (S : St) (fv sv : Value) : Prop where
  box : Row wr wq.heap.size 29 3 3 (sv3 S.slice fv sv)
  fo : OwnF (wq.heap.size + 1) wr fv S.files
  so : OwnS (wq.heap.size + 1) wr sv S.slices
  below : Below wq.heap.size wq wr
theorem JoinSt.first (wq : World) (z : Int) : JoinSt wq (wq.alloc (.cells #[.int .i64 z, .slice none 0 0, .slice none 0 0] 29)) ⟨z, [], []⟩ (.slice none 0 0) (.slice none 0 0) := by
  have h : (wq.alloc (.cells (rowArr 3 (sv3 z (.slice none 0 0) (.slice none 0 0))) 29)).heap[wq.heap.size]? = some (.cells (rowArr 3 (sv3 z (.slice none 0 0) (.slice none 0 0))) 29 (0, 0)) := heap_alloc_last wq _
  exact ⟨Row.of_whole h, OwnF.nil _ _, OwnS.nil _ _, (Below.refl _ _).alloc (Nat.le_refl _) _⟩
theorem JoinSt.later {wq wr w' : World} {S : St} {fv sv : Value} (h : JoinSt wq wr S fv sv) (k : Below wr.heap.size wr w') : JoinSt wq w' S fv sv :=
  ⟨h.box.below k h.box.lt, h.fo.kept k, h.so.kept k, h.below.trans (k.mono h.below.size)⟩
theorem JoinSt.file {wq w1 w2 : World} {S : St} {fv sv v2 : Value} {f : Fil} (h : JoinSt wq w1 S fv sv) (o2 : OwnF (wq.heap.size + 1) w2 v2 (S.files ++ [f])) (k : Fr (fun b => fv.ownBlock = some b) w1 w2) :
    Row w2 wq.heap.size 29 3 3 (sv3 S.slice fv sv) ∧ JoinSt wq (w2.setCell ⟨wq.heap.size, 1, none⟩ v2) ⟨S.slice, S.files ++ [f], S.slices⟩ v2 sv := by
  obtain ⟨cs, hc, h1, h2⟩ := h.box
  have hne : ¬ fv.ownBlock = some wq.heap.size := fun e => by have := (h.fo.at e).1; omega
  have hb2 : Row w2 wq.heap.size 29 3 3 (sv3 S.slice fv sv) := ⟨cs, (k.block _ (Array.getElem?_eq_some_iff.1 hc).1 hne).trans hc, h1, h2⟩
  have hs2 : OwnS (wq.heap.size + 1) w2 sv S.slices := h.so.fr k fun b hb hX => own_apart h.fo h.so hX hb
  have hfr : Fr (fun j => j = wq.heap.size) w2 (w2.setCell ⟨wq.heap.size, 1, none⟩ v2) := Fr.set (X := fun j => j = wq.heap.size) (p := ⟨wq.heap.size, 1, none⟩) (Fr.refl _ w2) (fun _ => rfl) _
  have hB2 : Below wq.heap.size wq w2 := h.below.trans (k.below h.below.size fun j hj hX => by have := (h.fo.at hX).1; omega)
  refine ⟨hb2, ⟨(hb2.upd 1 (by omega) v2).mono (Nat.le_refl _) fun j hj => ?_, o2.fr hfr fun b hb e => ?_, hs2.fr hfr fun b hb e => ?_, below_cellB hB2 hB2.size (Nat.le_refl _) _ _⟩⟩
  · unfold sv3
    have : j = 0 ∨ j = 1 ∨ j = 2 := by omega
    rcases this with rfl | rfl | rfl <;> rfl
  · have := (o2.at hb).1; omega
  · have := (hs2.at hb).1; omega
theorem JoinSt.sums {wq w1 w2 : World} {S : St} {fv sv v2 : Value} {G : List Sm} (h : JoinSt wq w1 S fv sv) (o2 : OwnS (wq.heap.size + 1) w2 v2 (S.slices ++ G)) (k : Fr (fun b => sv.ownBlock = some b) w1 w2) :
    Row w2 wq.heap.size 29 3 3 (sv3 S.slice fv sv) ∧ JoinSt wq (w2.setCell ⟨wq.heap.size, 2, none⟩ v2) ⟨S.slice, S.files, S.slices ++ G⟩ fv v2 := by
  obtain ⟨cs, hc, h1, h2⟩ := h.box
  have hne : ¬ sv.ownBlock = some wq.heap.size := fun e => by have := (h.so.at e).1; omega
  have hb2 : Row w2 wq.heap.size 29 3 3 (sv3 S.slice fv sv) := ⟨cs, (k.block _ (Array.getElem?_eq_some_iff.1 hc).1 hne).trans hc, h1, h2⟩
  have hs2 : OwnF (wq.heap.size + 1) w2 fv S.files := h.fo.fr k fun b hb hX => own_apart h.fo h.so hb hX
  have hfr : Fr (fun j => j = wq.heap.size) w2 (w2.setCell ⟨wq.heap.size, 2, none⟩ v2) := Fr.set (X := fun j => j = wq.heap.size) (p := ⟨wq.heap.size, 2, none⟩) (Fr.refl _ w2) (fun _ => rfl) _
  have hB2 : Below wq.heap.size wq w2 := h.below.trans (k.below h.below.size fun j hj hX => by have := (h.so.at hX).1; omega)
  refine ⟨hb2, ⟨(hb2.upd 2 (by omega) v2).mono (Nat.le_refl _) fun j hj => ?_, hs2.fr hfr fun b hb e => ?_, o2.fr hfr fun b hb e => ?_, below_cellB hB2 hB2.size (Nat.le_refl _) _ _⟩⟩
  · unfold sv3
    have : j = 0 ∨ j = 1 ∨ j = 2 := by omega
    rcases this with rfl | rfl | rfl <;> rfl
  · have := (hs2.at hb).1; omega
  · have := (o2.at hb).1; omega

def Lacks (F : List Pw) (M : Mp) : Prop := (∀ x ∈ M, x.1 ≠ (1, 0)) ∨ ∃ m0 f0, ∃ k : Nat, ((1, 0), m0) ∈ M ∧ F[m0]? = some f0 ∧ (k : Int) < f0.p.files ∧ ((∀ x ∈ M, x.1 ≠ (2, (k : Int))) ∨ (∀ x ∈ M, x.1 ≠ (3, (k : Int))))
def JoinPost (F : List Pw) (name : List Nat) (w : World) (e : Ending) (w' : World) : Prop := Below w.heap.size w w' ∧ ∃ M, Fst F name F.length M ∧
  ((e = .returned (.tuple #[.agg zSetA, .int .i64 7]) ∧ Lacks F M) ∨
   (∃ m0 f0 S, ((1, 0), m0) ∈ M ∧ F[m0]? = some f0 ∧ Got F M f0.p.slice f0.p.files.toNat S ∧
     ((e = .returned (.tuple #[.agg zSetA, .int .i64 2]) ∧ ¬ (f0.p.slices = (S.slices.length : Int) ∧ FormedP S ∧ nameS S = name)) ∨
      ((f0.p.slices = (S.slices.length : Int) ∧ FormedP S ∧ nameS S = name) ∧ ∃ fa fc sa sc, e = .returned (.tuple #[.agg (rowArr 3 (setV S fa fc sa sc)), .int .i64 0]) ∧ SetAt w' S fa fc sa sc ∧ (sa = none → sc = 0)))))
end Go.Proofs.YtcopjbapglndgaaGreatDoor
end

section
namespace Go.Proofs.YtcopjbapglndgaaGreatDoor
open Go.ChangeShapes Go.WideShapes Go.ChangeAt Go.RowKit Go.Joins
set_option linter.unusedVariables false

theorem OwnF.kind {B : Nat} {w : World} {v : Value} {F : List Fil} (h : OwnF B w v F) {b : Nat} (hb : v.ownBlock = some b) : ∃ cs, w.heap[b]? = some (.cells cs 58 (0, 0)) := by
  rcases h.2 with ⟨rfl, _⟩ | ⟨g, cap, cur, rfl, hB, hh, _⟩
  · simp [Value.ownBlock] at hb
  · have : g = b := by simpa [Value.ownBlock] using hb
    subst this
    exact ⟨_, hh⟩
theorem OwnS.kind {B : Nat} {w : World} {v : Value} {F : List Sm} (h : OwnS B w v F) {b : Nat} (hb : v.ownBlock = some b) : ∃ cs, w.heap[b]? = some (.cells cs 64 (0, 0)) := by
  rcases h.2 with ⟨rfl, _⟩ | ⟨g, cap, cur, rfl, hB, hh, _⟩
  · simp [Value.ownBlock] at hb
  · have : g = b := by simpa [Value.ownBlock] using hb
    subst this
    exact ⟨_, hh⟩
theorem JoinSt.fr {wq wr w' : World} {S : St} {fv sv : Value} {X : Nat → Prop} (h : JoinSt wq wr S fv sv) (k : Fr X wr w')
    (hX : ∀ b, X b → wq.heap.size < b ∧ ∀ cs e, wr.heap[b]? = some (.cells cs e (0, 0)) → e ≠ 58 ∧ e ≠ 64) : JoinSt wq w' S fv sv := by
  obtain ⟨cs, hc, h1, h2⟩ := h.box
  refine ⟨⟨cs, (k.block _ (Array.getElem?_eq_some_iff.1 hc).1 fun hx => by have := (hX _ hx).1; omega).trans hc, h1, h2⟩, h.fo.fr k fun b hb hx => ?_, h.so.fr k fun b hb hx => ?_, h.below.trans (k.below h.below.size fun j hj hx => by have := (hX _ hx).1; omega)⟩
  · obtain ⟨_, hc⟩ := h.fo.kind hb
    exact ((hX b hx).2 _ _ hc).1 rfl
  · obtain ⟨_, hc⟩ := h.so.kind hb
    exact ((hX b hx).2 _ _ hc).2 rfl
structure Rest (wq wr : World) (rv : Value) (R : List Bw) : Prop where
  b9 : wr.heap[wq.heap.size + 1]? = some (.cells #[rv] 30 (0, 0))
  ro : Own1 35 (wq.heap.size + 1) wr rv (R.map (·.v))
  bods : ∀ b ∈ R, OwnB wr b.v b.l ∧ IsByte b.l
  low : ∀ b ∈ R, ∀ j, b.v.ownBlock = some j → wq.heap.size ≤ j
theorem Rest.fr {wq wr w' : World} {rv : Value} {R : List Bw} {X : Nat → Prop} (h : Rest wq wr rv R) (k : Fr X wr w')
    (hX : ∀ b, X b → ∀ cs e, wr.heap[b]? = some (.cells cs e (0, 0)) → e ≠ 30 ∧ e ≠ 35 ∧ e ≠ 5) : Rest wq w' rv R := by
  refine ⟨(k.block _ (Array.getElem?_eq_some_iff.1 h.b9).1 fun hx => (hX _ hx _ _ h.b9).1 rfl).trans h.b9, h.ro.fr k fun b hb hx => ?_, fun b hb => ⟨(h.bods b hb).1.fr k fun j hj hx => ?_, (h.bods b hb).2⟩, h.low⟩
  · obtain ⟨_, hc⟩ := h.ro.kind hb
    exact (hX b hx _ _ hc).2.1 rfl
  · obtain ⟨_, hc⟩ := (h.bods b hb).1.kind hj
    exact (hX j hx _ _ hc).2.2 rfl
structure MkSt (wq wr : World) (S : St) (fv sv rv : Value) (R : List Bw) : Prop where
  j : JoinSt wq wr S fv sv
  r : Rest wq wr rv R
theorem MkSt.later {wq wr w' : World} {S : St} {fv sv rv : Value} {R : List Bw} (h : MkSt wq wr S fv sv rv R) (k : Below wr.heap.size wr w') : MkSt wq w' S fv sv rv R :=
  ⟨h.j.later k, h.r.fr (X := fun _ => False) (Fr.of_below k) (fun b hb => hb.elim)⟩
/-- Blocks that aren't cells may turn. -/
theorem MkSt.turned {wq wr w' : World} {S : St} {fv sv rv : Value} {R : List Bw} {row : Option Nat} (h : MkSt wq wr S fv sv rv R) (k : wr.grownBy w' row) (hr : ∀ r, row = some r → wq.heap.size < r ∧ ∃ o : Obj, wr.heap[r]? = some o ∧ o.isCells = false) : MkSt wq w' S fv sv rv R := by
  have hf : Fr (fun b => row = some b) wr w' := Fr.of_grown k fun b hb => hb
  have hno : ∀ b, row = some b → ∀ cs e, wr.heap[b]? = some (.cells cs e (0, 0)) → False := fun b hb cs e hc => by
    obtain ⟨_, o, ho, hn⟩ := hr b hb
    rw [hc] at ho
    cases ho
    cases hn
  exact ⟨h.j.fr hf fun b hb => ⟨(hr b hb).1, fun cs e hc => (hno b hb cs e hc).elim⟩, h.r.fr hf fun b hb cs e hc => (hno b hb cs e hc).elim⟩
theorem MkSt.file {wq w1 w2 : World} {S : St} {fv sv rv v2 : Value} {R : List Bw} {f : Fil} (h : MkSt wq w1 S fv sv rv R) (o2 : OwnF (wq.heap.size + 1) w2 v2 (S.files ++ [f])) (k : Fr (fun b => fv.ownBlock = some b) w1 w2) :
    Row w2 wq.heap.size 29 3 3 (sv3 S.slice fv sv) ∧ MkSt wq (w2.setCell ⟨wq.heap.size, 1, none⟩ v2) ⟨S.slice, S.files ++ [f], S.slices⟩ v2 sv rv R := by
  obtain ⟨hb, hj⟩ := h.j.file o2 k
  refine ⟨hb, hj, ?_⟩
  obtain ⟨cs0, hc0, _, _⟩ := hb
  refine (h.r.fr k fun b hb cs e hc => ?_).fr (X := fun j => j = wq.heap.size) (Fr.set (X := fun j => j = wq.heap.size) (p := ⟨wq.heap.size, 1, none⟩) (Fr.refl _ w2) (fun _ => rfl) _) fun b hb cs e hc => ?_
  · obtain ⟨_, hc2⟩ := h.j.fo.kind hb
    rw [hc2] at hc
    obtain ⟨_, rfl⟩ : _ ∧ 58 = e := by simpa using hc
    decide
  · subst hb
    rw [hc0] at hc
    obtain ⟨_, rfl⟩ : _ ∧ 29 = e := by simpa using hc
    decide
theorem MkSt.sums {wq w1 w2 : World} {S : St} {fv sv rv v2 : Value} {R : List Bw} {G : List Sm} (h : MkSt wq w1 S fv sv rv R) (o2 : OwnS (wq.heap.size + 1) w2 v2 (S.slices ++ G)) (k : Fr (fun b => sv.ownBlock = some b) w1 w2) :
    Row w2 wq.heap.size 29 3 3 (sv3 S.slice fv sv) ∧ MkSt wq (w2.setCell ⟨wq.heap.size, 2, none⟩ v2) ⟨S.slice, S.files, S.slices ++ G⟩ fv v2 rv R := by
  obtain ⟨hb, hj⟩ := h.j.sums o2 k
  refine ⟨hb, hj, ?_⟩
  obtain ⟨cs0, hc0, _, _⟩ := hb
  refine (h.r.fr k fun b hb cs e hc => ?_).fr (X := fun j => j = wq.heap.size) (Fr.set (X := fun j => j = wq.heap.size) (p := ⟨wq.heap.size, 2, none⟩) (Fr.refl _ w2) (fun _ => rfl) _) fun b hb cs e hc => ?_
  · obtain ⟨_, hc2⟩ := h.j.so.kind hb
    rw [hc2] at hc
    obtain ⟨_, rfl⟩ : _ ∧ 64 = e := by simpa using hc
    decide
  · subst hb
    rw [hc0] at hc
    obtain ⟨_, rfl⟩ : _ ∧ 29 = e := by simpa using hc
    decide
theorem MkSt.src {wq w1 w2 : World} {S : St} {fv sv rv v2 : Value} {R : List Bw} {g : Bw} (h : MkSt wq w1 S fv sv rv R) (hG : OwnB w1 g.v g.l ∧ IsByte g.l) (hL : ∀ j, g.v.ownBlock = some j → wq.heap.size ≤ j) (o2 : Own1 35 (wq.heap.size + 1) w2 v2 (R.map (·.v) ++ [g.v])) (k : Fr (fun b => rv.ownBlock = some b) w1 w2) :
    w2.heap[wq.heap.size + 1]? = some (.cells #[rv] 30 (0, 0)) ∧ MkSt wq (w2.setCell ⟨wq.heap.size + 1, 0, none⟩ v2) S fv sv v2 (R ++ [g]) := by
  have hk1 : ∀ b, rv.ownBlock = some b → wq.heap.size < b ∧ ∃ cs, w1.heap[b]? = some (.cells cs 35 (0, 0)) := fun b hb => ⟨by have := (h.r.ro.at hb).1; omega, h.r.ro.kind hb⟩
  have h9 : w2.heap[wq.heap.size + 1]? = some (.cells #[rv] 30 (0, 0)) := (k.block _ (Array.getElem?_eq_some_iff.1 h.r.b9).1 fun hx => by
    obtain ⟨_, hc⟩ := (hk1 _ hx).2
    exact kinds_ne hc h.r.b9 (by decide)).trans h.r.b9
  have hs : Fr (fun j => j = wq.heap.size + 1) w2 (w2.setCell ⟨wq.heap.size + 1, 0, none⟩ v2) := Fr.set (X := fun j => j = wq.heap.size + 1) (p := ⟨wq.heap.size + 1, 0, none⟩) (Fr.refl _ w2) (fun _ => rfl) _
  have hj2 : JoinSt wq w2 S fv sv := h.j.fr k fun b hb => ⟨(hk1 b hb).1, fun cs e hc => by
    obtain ⟨_, hc2⟩ := (hk1 b hb).2
    rw [hc2] at hc
    obtain ⟨_, rfl⟩ : _ ∧ 35 = e := by simpa using hc
    decide⟩
  have hall : ∀ b ∈ R ++ [g], OwnB w1 b.v b.l ∧ IsByte b.l := fun b hb => by
    rcases List.mem_append.1 hb with h1 | h1
    · exact h.r.bods b h1
    · rw [List.mem_singleton.1 h1]; exact hG
  have hlow : ∀ b ∈ R ++ [g], ∀ j, b.v.ownBlock = some j → wq.heap.size ≤ j := fun b hb => by
    rcases List.mem_append.1 hb with h1 | h1
    · exact h.r.low b h1
    · rw [List.mem_singleton.1 h1]; exact hL
  refine ⟨h9, hj2.fr hs fun b hb => ⟨by omega, fun cs e hc => ?_⟩, Boxed.set v2 h9, ?_, fun b hb => ⟨((hall b hb).1.fr k fun j hj hx => ?_).fr hs fun j hj hx => ?_, (hall b hb).2⟩, hlow⟩
  · subst hb
    rw [h9] at hc
    obtain ⟨_, rfl⟩ : _ ∧ 30 = e := by simpa using hc
    decide
  · rw [List.map_append]
    refine o2.fr hs fun b hb hx => ?_
    subst hx
    obtain ⟨_, hc⟩ := o2.kind hb
    exact kinds_ne hc h9 (by decide)
  · obtain ⟨_, c1⟩ := (hall b hb).1.kind hj
    obtain ⟨_, c2⟩ := (hk1 j hx).2
    exact kinds_ne c1 c2 (by decide)
  · subst hx
    have hq := ((hall b hb).1.fr k fun j hj hx => by
      obtain ⟨_, c1⟩ := (hall b hb).1.kind hj
      obtain ⟨_, c2⟩ := (hk1 j hx).2
      exact kinds_ne c1 c2 (by decide))
    obtain ⟨_, hc⟩ := hq.kind hj
    exact kinds_ne hc h9 (by decide)

/-! A slice of slices that is read. -/
structure SrcAt (w : World) (a : Option Addr) (c : Nat) (R : List (List Nat)) : Prop where
  len : R.length ≤ c
  most : c ≤ maxLen
  here : R = [] ∨ ∃ g, a = some ⟨g, 0, none⟩ ∧ g < w.heap.size ∧ ∀ i (h : i < R.length), ∃ p q, w.cell? ⟨g, i, none⟩ = some (.slice p R[i].length q) ∧ Sl w p q R[i]
theorem SrcAt.below {w w' : World} {a : Option Addr} {c : Nat} {R : List (List Nat)} (h : SrcAt w a c R) (k : Below w.heap.size w w') : SrcAt w' a c R :=
  ⟨h.len, h.most, by
    rcases h.here with e | ⟨g, e, hg, hc⟩
    · exact .inl e
    · exact .inr ⟨g, e, Nat.lt_of_lt_of_le hg k.size, fun i hi => by
        obtain ⟨p, q, h1, h2⟩ := hc i hi
        exact ⟨p, q, (k.cell (p := ⟨g, i, none⟩) hg).trans h1, h2.below k⟩⟩⟩
theorem Rest.src {wq wr : World} {rv : Value} {R : List Bw} (h : Rest wq wr rv R) : ∃ a c, rv = .slice a (R.map (·.l)).length c ∧ SrcAt wr a c (R.map (·.l)) := by
  obtain ⟨a, c, hv, h1, h2⟩ := h.ro.slice
  rw [List.length_map] at hv h1
  refine ⟨a, c, by rw [List.length_map]; exact hv, by rw [List.length_map]; exact h1, h2, ?_⟩
  by_cases h0 : R = []
  · exact .inl (by rw [h0]; rfl)
  · have hro := h.ro
    rw [hv] at hro
    have hl : 0 < R.length := List.length_pos_iff.2 h0
    have hro2 : Own1 35 (wq.heap.size + 1) wr (.slice a (R.map (·.v)).length c) (R.map (·.v)) := by rw [List.length_map]; exact hro
    obtain ⟨g, hg, hgl, _⟩ := hro2.cell (i := 0) (by rw [List.length_map]; exact hl)
    refine .inr ⟨g, hg, hgl, fun i hi => ?_⟩
    rw [List.length_map] at hi
    obtain ⟨g', hg', _, hc⟩ := hro2.cell (i := i) (by rw [List.length_map]; exact hi)
    rw [hg] at hg'
    cases hg'
    rw [List.getElem_map] at hc ⊢
    have hb := h.bods R[i] (List.getElem_mem hi)
    obtain ⟨p, q, hv2, hsl, _⟩ := hb.1.sl hb.2
    exact ⟨p, q, by rw [hc, hv2], hsl⟩
end Go.Proofs.YtcopjbapglndgaaGreatDoor
end

section
namespace Go.Proofs.YtcopjbapglndgaaGreatDoor
open Go.ChangeShapes Go.WideShapes Go.ChangeAt Go.RowKit Go.Joins
set_option linter.unusedVariables false

theorem built_fil (f : Fil) : Tryz.prog.built 58 [(0, .string (strOf f.name)), (1, .int .i64 f.size), (2, .agg (rowArr 32 (vOf f.dg))), (3, .int .i64 f.first)] = some (rowArr 35 (filV f)) := by kernel_rfl
theorem built_sm (x : Sm) : Tryz.prog.built 64 [(0, .int .i64 x.n), (1, .int .u32 (x.crc : Int)), (2, .agg (rowArr 32 (vOf x.dg)))] = some (rowArr 34 (smV x)) := by kernel_rfl
theorem builtS_sm (V : Nat → Value) : Tryz.prog.builtSlice 64 1 [(0, .agg (rowArr 34 V))] = some (rowArr 34 V) := by kernel_rfl
theorem builtS_by (a : Option Addr) (n c : Nat) : Tryz.prog.builtSlice 35 1 [(0, .slice a n c)] = some #[.slice a n c] := by kernel_rfl
theorem op_oneS {o : Oper} {a : Act} {w : World} {K : Act → World → Prop} {Q : Exit → Act → World → Prop} (x : Operand) (ho : o.op = .buildSlice 27 1 #[(0, x)]) (f : Sm) (hx : a.eval x = .agg (rowArr 34 (smV f)))
    (h : K (a.put o.dst (.slice (some ⟨w.heap.size, 0, none⟩) 1 1)) (w.alloc (.cells (rowArr 34 (smV f)) 64))) : o.wp Tryz.prog a w K Q := by
  have hf := builtS_sm (smV f)
  unfold Program.builtSlice at hf
  cases hie : Tryz.prog.info? 64 with
  | none => simp [hie] at hf
  | some ie =>
    simp only [hie] at hf
    cases hz : ie.zero with
    | none => simp [hz] at hf
    | some z =>
      simp only [hz] at hf
      by_cases hc : 1 * ie.size > 2 ^ 24 ∨ 1 * ie.size = 0
      · rw [if_pos hc] at hf; cases hf
      · rw [if_neg hc] at hf
        refine wp_buildSlice 27 64 1 _ ho _ ie z Tryz.underlying27 hie hz (fun h' => hc (Or.inl h')) (fun h' => hc (Or.inr h')) ?_ h
        simp only [List.map_toArray, List.map_cons, List.map_nil, hx]
        exact hf
theorem op_oneB {o : Oper} {a : Act} {w : World} {K : Act → World → Prop} {Q : Exit → Act → World → Prop} (x : Operand) (ho : o.op = .buildSlice 30 1 #[(0, x)]) (p : Option Addr) (n c : Nat) (hx : a.eval x = .slice p n c)
    (h : K (a.put o.dst (.slice (some ⟨w.heap.size, 0, none⟩) 1 1)) (w.alloc (.cells #[.slice p n c] 35))) : o.wp Tryz.prog a w K Q := by
  have hf := builtS_by p n c
  unfold Program.builtSlice at hf
  cases hie : Tryz.prog.info? 35 with
  | none => simp [hie] at hf
  | some ie =>
    simp only [hie] at hf
    cases hz : ie.zero with
    | none => simp [hz] at hf
    | some z =>
      simp only [hz] at hf
      by_cases hc : 1 * ie.size > 2 ^ 24 ∨ 1 * ie.size = 0
      · rw [if_pos hc] at hf; cases hf
      · rw [if_neg hc] at hf
        refine wp_buildSlice 30 35 1 _ ho _ ie z Tryz.underlying30 hie hz (fun h' => hc (Or.inl h')) (fun h' => hc (Or.inr h')) ?_ h
        simp only [List.map_toArray, List.map_cons, List.map_nil, hx]
        exact hf
theorem sms_single {w : World} {g : Nat} {x : Sm} (hx : SmOk x) (h : w.heap[g]? = some (.cells (rowArr 34 (smV x)) 64 (0, 0))) : Sms w (some ⟨g, 0, none⟩) 1 [x] := by
  have k : ∀ j, j < 34 → w.cell? ⟨g, j, none⟩ = some (smV x j) := fun j hj => by rw [cell_of_block h]; simp [rowArr, hj]
  refine ⟨fun y hy => by rw [List.mem_singleton.1 hy]; exact hx, Nat.le_refl _, by unfold maxLen; omega, .inr ⟨g, 0, rfl, (Array.getElem?_eq_some_iff.1 h).1, fun i hi => ?_⟩⟩
  have hi0 : i = 0 := by simp at hi; omega
  subst hi0
  show SmAt w g (0 + 0 * 34) x
  refine ⟨k 0 (by omega), k 1 (by omega), fun j hj => ?_⟩
  rw [hx.2.2.1] at hj
  have := k (2 + j) (by omega)
  rw [show 0 + 0 * 34 + 2 + j = 2 + j by omega, this]
  unfold smV
  rw [if_neg (by omega), if_neg (by omega), show 2 + j - 2 = j by omega]
  unfold vOf byteV
  rw [List.getD_eq_getElem?_getD, List.getElem?_eq_getElem (by rw [hx.2.2.1]; exact hj)]
  rfl
theorem smOf_ok {l : List Nat} (hb : IsByte l) (hl : l.length ≤ 1000000) : SmOk (smOf l) := ⟨⟨by show (-9223372036854775808 : Int) ≤ (l.length : Int); omega, by show (l.length : Int) ≤ 9223372036854775807; omega⟩, crcOf_lt l hb, dgN_len l, dgN_byte l⟩
theorem filOf_ok {L : List Inp} {s : Int} {k : Nat} (h1 : IsByte (L.getD k zInp).name) (h2 : (L.getD k zInp).name.length ≤ 30000) (h3 : (L.getD k zInp).b.length ≤ 30000) (h4 : cntOf L s k ≤ 30000) : FilOk (filOf L s k) :=
  ⟨h1, ⟨by show (-9223372036854775808 : Int) ≤ ((L.getD k zInp).b.length : Int); omega, by show ((L.getD k zInp).b.length : Int) ≤ 9223372036854775807; omega⟩, ⟨by show (-9223372036854775808 : Int) ≤ (cntOf L s k : Int); omega, by show (cntOf L s k : Int) ≤ 9223372036854775807; omega⟩, dgN_len _, dgN_byte _, by show (L.getD k zInp).name.length ≤ _; omega⟩
set_option maxRecDepth 100000 in
/-- bytes.Clone: a row of one's own. -/
theorem clone_own (a : Option Addr) (cap : Nat) (l : List Nat) (w : World) (hl : l.length ≤ 100000) (hs : Sl w a cap l) :
    Calls Tryz.prog 23 #[.slice a l.length cap] w fun e w' => ∃ sa sc, e = .returned (.slice sa l.length sc) ∧ OwnB w' (.slice sa l.length sc) l ∧ Below w.heap.size w w' ∧ ∀ p, sa = some p → w.heap.size ≤ p.block := by
  cases a with
  | none =>
    obtain ⟨rfl, rfl⟩ := hs.none rfl
    have hq := eqs_no w
    have HR : Hid (OwnB w (.slice none 0 0) []) := OwnB.nil w
    clear hs
    go_enter Tryz.func23, Tryz.ntmps23
    go_wp2_with fail
    go_ret
    exact ⟨_, _, rfl, HR.out, Below.refl _ _, fun p hp => (by cases hp)⟩
  | some ad =>
    have hq := eqs_yes ad l.length cap w
    have HBY := Lib.hid hs.byte
    have HB : Hid (Below w.heap.size w (w.alloc (.cells #[] 5))) := (Below.refl _ _).alloc (Nat.le_refl _) _
    have HS : Hid (Sl (w.alloc (.cells #[] 5)) (some ad) cap l) := hs.below HB.out
    have HE : Hid (OwnB (w.alloc (.cells #[] 5)) (.slice (some ⟨w.heap.size, 0, none⟩) 0 0) []) := World.ownsRow_made w #[] 0 (Nat.zero_le _) (by simp) (by simp)
    have hlm := hs.lt
    have hcm : cap ≤ 9223372036854775807 := by have := hs.most; unfold maxLen at this; omega
    clear hs
    go_enter Tryz.func23, Tryz.ntmps23
    go_wp2_with (at_builtin; refine wpList_addB _ rfl _ _ rfl (.slice (some ⟨w.heap.size, 0, none⟩) 0 0) [] rfl HE.out (some ad) cap l.length l rfl rfl HS.out (by simp; omega) ?_; intro v2 w2 HR2 hg2 ho2)
    have hw2 := Below.grown HB.out hg2.out (by simp) (fun k hk => by
      have : w.heap.size = k := by simpa [Value.ownBlock] using hk
      omega)
    have HW := Lib.hid hw2
    rw [List.nil_append] at HR2
    obtain ⟨a2, c2, rfl, hsl, hob⟩ := HR2.out.sl HBY.out
    have HOB : Hid (∀ p, a2 = some p → w.heap.size ≤ p.block) := fun p hp => by
      rcases ho2.out with h | h
      · rw [hob p hp] at h
        have : p.block = w.heap.size := by simpa [Value.ownBlock] using h
        omega
      · rw [hob p hp] at h
        have : p.block = _ := Option.some.inj h
        rw [this]
        simp
    clear hg2 ho2 hsl hob hw2 HE
    go_wp2_with fail
    go_ret
    exact ⟨a2, c2, rfl, HR2.out, HW.out, HOB.out⟩
end Go.Proofs.YtcopjbapglndgaaGreatDoor
end

section
namespace Go.Proofs.YtcopjbapglndgaaGreatDoor
open Go.ChangeShapes Go.WideShapes Go.ChangeAt Go.RowKit Go.Joins
set_option linter.unusedVariables false

theorem sl_chunk {w : World} {a : Option Addr} {c : Nat} {b : List Nat} {g off : Nat} (h : Sl w a c b) (ha : b = [] ∨ a = some ⟨g, off, none⟩) (S x : Nat) : Sl w (some ⟨g, off + x * S, none⟩) (chunkAt b S x).length (chunkAt b S x) := by
  refine ⟨fun n hn => h.byte n (List.mem_of_mem_drop (List.mem_of_mem_take hn)), Nat.le_refl _, ?_, fun e => (by cases e), ?_⟩
  · have := h.len; have := h.most; have := chunkAt_len b S x; omega
  · by_cases h0 : chunkAt b S x = []
    · exact .inl h0
    · refine .inr ⟨g, off + x * S, rfl, fun i hi => ?_⟩
      have hl := chunkAt_len b S x
      have hb : b ≠ [] := fun e => h0 (by unfold chunkAt; rw [e]; simp)
      have ha2 := ha.resolve_left hb
      subst ha2
      rcases h.here with e | ⟨g', off', e, hc⟩
      · exact absurd e hb
      · cases e
        have := hc (x * S + i) (by omega)
        rw [show off + (x * S + i) = off + x * S + i by omega] at this
        have e : (chunkAt b S x)[i] = b[x * S + i] := by
          have h2 : (chunkAt b S x)[i]? = b[x * S + i]? := by unfold chunkAt; rw [List.getElem?_take_of_lt (by omega), List.getElem?_drop]
          rw [List.getElem?_eq_getElem hi, List.getElem?_eq_getElem (by omega)] at h2
          exact Option.some.inj h2
        rw [this, e]
theorem others_of_fr {X : Nat → Prop} {W W' : World} (k : Fr X W W') (hX : ∀ b, X b → ∃ cs e, W.heap[b]? = some (.cells cs e (0, 0))) : KeepsOthers W W' :=
  ⟨k.size, fun i o hi ho => (k.block i (Array.getElem?_eq_some_iff.1 hi).1 fun hx => by
    obtain ⟨cs, e, hc⟩ := hX i hx
    rw [hi] at hc
    cases hc
    cases ho).trans hi⟩
theorem marks_fr {Dn : List Nat} {B : Nat} {W W' : World} {X : Nat → Prop} (h : ∀ D ∈ Dn, B < D ∧ W.heap[D]? = some (.deferred (some []))) (k : Fr X W W') (hX : ∀ b, X b → b ≤ B ∨ ∃ cs e, W.heap[b]? = some (.cells cs e (0, 0))) :
    ∀ D ∈ Dn, B < D ∧ W'.heap[D]? = some (.deferred (some [])) := fun D hD => by
  obtain ⟨h1, h2⟩ := h D hD
  refine ⟨h1, (k.block D (Array.getElem?_eq_some_iff.1 h2).1 fun hx => ?_).trans h2⟩
  rcases hX D hx with h3 | ⟨cs, e, h3⟩
  · omega
  · rw [h2] at h3; cases h3
structure ChI (wq : World) (L : List Inp) (S k : Nat) (b : List Nat) (bx bn C : Nat) (xv : Value) (Dn : List Nat) (fv : Value) (pre : List Nat) (W : World) : Prop where
  st : ∃ sv rv R, MkSt wq W ⟨(S : Int), filsTo L (S : Int) (k + 1), (srcsTo L (S : Int) k ++ pre.map (chunkAt b S)).map smOf⟩ fv sv rv R ∧ R.map (·.l) = srcsTo L (S : Int) k ++ pre.map (chunkAt b S) ∧ ¬ rv.ownBlock = some bx
  box : W.heap[bx]? = some (.cells #[xv] 35 (0, 0))
  bon : W.heap[bn]? = some (.cells #[.int .i64 (S : Int)] 3 (0, 0))
  marks : ∀ D ∈ Dn, wq.heap.size + 1 < D ∧ W.heap[D]? = some (.deferred (some []))
  old : ∀ D ∈ Dn, D < C
theorem ChI.own {wq : World} {L : List Inp} {S k : Nat} {b : List Nat} {bx bn C : Nat} {xv : Value} {Dn : List Nat} {fv : Value} (hq : wq.heap.size < C) (h1 : bx < C) (h2 : bn < C) : OwnFrom C (ChI wq L S k b bx bn C xv Dn fv) := fun s W W' row hs hg hr => by
  obtain ⟨sv, rv, R, hm, hl, hn⟩ := hs.st
  refine ⟨⟨sv, rv, R, hm.turned hg fun r e => ⟨by have := (hr r e).1; omega, (hr r e).2⟩, hl, hn⟩, ?_, ?_, fun D hD => ⟨(hs.marks D hD).1, ?_⟩, hs.old⟩
  · exact (hg.block bx (Array.getElem?_eq_some_iff.1 hs.box).1 fun e => by have := (hr _ e.symm).1; omega).trans hs.box
  · exact (hg.block bn (Array.getElem?_eq_some_iff.1 hs.bon).1 fun e => by have := (hr _ e.symm).1; omega).trans hs.bon
  · have h := (hs.marks D hD).2
    exact (hg.block D (Array.getElem?_eq_some_iff.1 h).1 fun e => by have := (hr _ e.symm).1; have := hs.old D hD; omega).trans h
end Go.Proofs.YtcopjbapglndgaaGreatDoor
end

section
namespace Go.Proofs.YtcopjbapglndgaaGreatDoor
open Go.RowKit Go.Sort
set_option linter.unusedVariables false

/-- It goes on, whatever else. -/
def OnlyN (K : Act → World → Prop) : Exit → Act → World → Prop
  | .normal, a, w => K a w
  | _, _, _ => False
def noDefer (l : List Oper) : Bool := l.all fun o => match o.op with | .defer _ => false | _ => true
theorem rows_in_round {P : Program} {row : String} {args : Array Value} {w : World} {R : Value → World → Prop} (l n : Nat) (h : Go.Rows P row args w R) : Go.RowsIn (Fence.wide.inRound l) n P row args w R :=
  fun c cs _ => let ⟨v, w', r, s⟩ := h c cs; ⟨v, w', r, stepsIn_wide.2 s⟩
theorem oper_in_round {P : Program} {o : Oper} {a : Act} {w : World} {K K' : Act → World → Prop} {K0 : Act → World → Prop} (l n : Nat) (hd : ∀ c, o.op ≠ .defer c) (hk : ∀ a w, K a w → K' a w)
    (h : o.wp P a w K (NoPanic (OnlyN K0))) : o.wpIn (Fence.wide.inRound l) n P a w K' (NoPanic (OnlyN K0)) := by
  refine ⟨fun _ _ => trivial, ?_⟩
  unfold Oper.wp at h
  show o.uponIn _ _ _ _ _ _ ((Oper.semAt (some l) a.eval o).run P w)
  rw [Oper.semAt_some l a.eval o hd]
  generalize (execOp a.eval o).run P w = r at h ⊢
  cases r with
  | ok x w' =>
    cases x <;> simp only [Oper.upon, Oper.uponIn] at h ⊢ <;>
      first
        | exact hk _ _ h
        | exact ⟨fun e => (by cases e), CallsIn.inRound l (callsIn_wide.2 (Calls.mono h fun e w'' he => by
            cases e
            · exact hk _ _ he
            · exact he
            · exact he))⟩
        | exact ⟨fun e => (by cases e), rows_in_round l _ (Go.Rows.mono h fun v w'' he => hk _ _ he)⟩
        | exact h.elim
  | halt x w' => cases x <;> simp only [Oper.upon, Oper.uponIn] at h ⊢ <;> exact h
theorem any_in_round {P : Program} {ops : Array Oper} {K0 : Act → World → Prop} (l n : Nat) (hd : ∀ (i : Nat) (o : Oper), ops[i]? = some o → ∀ c, o.op ≠ .defer c) : ∀ (fuel : Nat) (listed : Array Bool) (a : Act) (w : World),
    wpAny P .any ops (NoPanic (OnlyN K0)) fuel listed a w → wpAnyIn (Fence.wide.inRound l) n P .any ops (NoPanic (OnlyN K0)) fuel listed a w
  | 0, _, _, _, h => h
  | fuel + 1, listed, a, w, h => by
    refine ⟨h.1, fun i hi => ?_⟩
    have h2 := h.2 i hi
    unfold wpOp at h2
    unfold wpOpIn
    cases ho : ops[i]? with
    | none => rw [ho] at h2; exact any_in_round l n hd fuel _ a w h2
    | some o =>
      rw [ho] at h2
      simp only at h2 ⊢
      by_cases hw : Region.wanted o (yielded ops a.tmps) = true
      · rw [if_pos hw] at h2 ⊢
        rcases h2 with h2 | ⟨_, _, _, h2⟩
        · exact oper_in_round l n (hd i o ho) (fun a' w' h' => any_in_round l n hd fuel _ a' w' h') h2
        · exact h2.elim
      · rw [if_neg hw] at h2 ⊢
        exact ⟨fun _ _ => trivial, any_in_round l n hd fuel _ _ _ h2⟩
theorem growR_begin {P : Program} (last : Nat) (C : World → Prop) {id : Nat} {a : Act} {w : World} {l : List Oper} {lr n : Nat} {Q : Exit → Act → World → Prop} (hm : P.follows .mixedOrders = true) (hd : noDefer l = true)
    (h : wpAnyT P l.toArray (NoPanic (OnlyN fun a w => Q .normal a w)) C last l.length (Array.replicate l.length false) a w.drew) : (Code.region id l.toArray true).wpIn (Fence.wide.inRound lr) n P Q a w := by
  have h1 := wpAny_of_T (C := C) (last := last) _ _ _ _ h
  have hd2 : ∀ (i : Nat) (o : Oper), l.toArray[i]? = some o → ∀ c, o.op ≠ .defer c := fun i o ho c e => by
    rw [List.getElem?_toArray] at ho
    have h2 := List.all_eq_true.1 hd o (List.mem_of_getElem? ho)
    rw [e] at h2
    cases h2
  have h3 := any_in_round lr n hd2 l.length _ a w.drew h1
  refine Code.wpIn_mono (Q := NoPanic (OnlyN fun a w => Q .normal a w)) (fun e a w hq => ?_) (wpIn_region_any hm ?_)
  · cases e <;> first | exact hq | exact (hq : False).elim
  · rw [List.size_toArray]
    exact h3
end Go.Proofs.YtcopjbapglndgaaGreatDoor
end
