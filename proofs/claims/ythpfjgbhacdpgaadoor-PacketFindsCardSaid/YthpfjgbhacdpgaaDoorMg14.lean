/-
  Structs that hold arrays: a part of a block loaded as one value; files' entries compared.
  Package codec: an In in memory; take, fail.
  Package codec: what an In answers.
-/
import Derived.Test.YthpfjgbhacdpgaaDoorMg13
import Derived.Laws.StructEq
import Derived.Stop.BytesEq
section
namespace Go.Proofs.YthpfjgbhacdpgaaDoor
open Go.ChangeShapes Go.WideShapes Go.ChangeAt Go.RowKit Go.Joins
set_option linter.unusedVariables false

/-! A part of a block, as one value. -/

def isAggD : TypeDesc → Bool
  | .struct _ => true
  | .array _ _ => true
  | _ => false
set_option maxRecDepth 100000 in
theorem run_loadVar_arr {P : Program} (w : World) (g off n N : Nat) (F : Nat → Value) (t ty : TypeId) (fr : Nat × Nat) (d : TypeDesc) (hg : w.heap[g]? = some (.cells (rowArr N F) t fr)) (hn : off + n ≤ N)
    (hu : P.underlying ty = some d) (hd : isAggD d = true) (hi : (P.info? ty).map (·.size) = some n) :
    (loadVar ty ⟨g, off, none⟩).run P w = .ok (.agg (rowArr n fun j => F (off + j))) w := by
  have hlen : (rowArr n fun j => F (off + j)).toList.length = n := by simp [rowArr]
  have hl : (loadCells ⟨g, off, none⟩ (rowArr n fun j => F (off + j)).toList.length).run P w = .ok (rowArr n fun j => F (off + j)).toList.toArray w :=
    run_loadCells_list (P := P) w ⟨g, off, none⟩ (rowArr n fun j => F (off + j)).toList (fun j v hv => by
      have hadd : (⟨g, off, none⟩ : Addr).add j = ⟨g, off + j, none⟩ := by unfold Addr.add; split <;> simp_all
      have hj : j < n := by
        have := (List.getElem?_eq_some_iff.1 hv).1
        omega
      rw [hadd, cell_of_row w g (off + j) _ t fr hg]
      simp only [rowArr] at hv ⊢
      simp [hj] at hv
      simp [show off + j < N by omega, hv])
  rw [hlen] at hl
  cases hq : P.info? ty with
  | none => simp [hq] at hi
  | some i =>
    have hs : i.size = n := by simpa [hq] using hi
    have hagg : (isAgg ty).run P w = .ok true w := by
      unfold isAgg
      rw [Sem.run_bind, run_underlying hu w]
      cases d <;> simp_all [isAggD]
    simp only [Array.toArray_toList] at hl
    simp [loadVar, Sem.run_bind, hagg, sizeOf, typeInfo, hq, hs, hl]
set_option maxRecDepth 100000 in
theorem wpList_load_arr {ops : Array Oper} {rest : List Oper} {o : Oper} {a : Act} {w : World} {Q : Exit → Act → World → Prop} (hgd : o.guard = none) (ty : TypeId) (x : Operand) (ho : o.op = .load ty x)
    (g off n N : Nat) (F : Nat → Value) (hx : a.eval x = .pointer (some ⟨g, off, none⟩)) (t : TypeId) (fr : Nat × Nat) (d : TypeDesc) (hg : w.heap[g]? = some (.cells (rowArr N F) t fr)) (hn : off + n ≤ N)
    (hu : Tryd.prog.underlying ty = some d) (hd : isAggD d = true) (hi : (Tryd.prog.info? ty).map (·.size) = some n)
    (h : wpList Tryd.prog ops Q rest (a.put o.dst (.agg (rowArr n fun j => F (off + j)))) w) : wpList Tryd.prog ops Q (o :: rest) a w :=
  wpList_plain hgd fun K hK => by
    unfold Oper.wp execOp
    simp only [ho, hx, Instr.loadAt, Instr.sureAddr, Sem.run_bind, Sem.run_pure, Result.andThen_ok, run_loadVar_arr (P := Tryd.prog) w g off n N F t ty fr d hg hn hu hd hi]
    exact hK _ _ h
set_option maxRecDepth 100000 in
/-- The same where the order is open: one value in every world of a class. -/
theorem quiet_load_arr {C : World → Prop} {o : Oper} {a : Act} {K : Act → Prop} (ty : TypeId) (x : Operand) (ho : o.op = .load ty x)
    (g off n N : Nat) (F : Nat → Value) (hx : a.eval x = .pointer (some ⟨g, off, none⟩)) (t : TypeId) (fr : Nat × Nat) (d : TypeDesc) (hg : ∀ w, C w → w.heap[g]? = some (.cells (rowArr N F) t fr)) (hn : off + n ≤ N)
    (hu : Tryd.prog.underlying ty = some d) (hd : isAggD d = true) (hi : (Tryd.prog.info? ty).map (·.size) = some n)
    (h : K (a.put o.dst (.agg (rowArr n fun j => F (off + j))))) : o.quiet Tryd.prog a C K := by
  refine ⟨_, fun w hw => ?_, h⟩
  unfold Oper.quietAt execOp
  simp only [ho, hx, Instr.loadAt, Instr.sureAddr, Sem.run_bind, Sem.run_pure, Result.andThen_ok, run_loadVar_arr (P := Tryd.prog) w g off n N F t ty fr d (hg w hw) hn hu hd hi]
  exact ⟨rfl, rfl⟩

/-! Structs compared, field by field. -/

def eqF (d : Nat) (xs ys : Array Value) : List (String × TypeId × Nat) → Sem Bool
  | [] => pure true
  | f :: fs =>
    if f.1 ≠ "_" then do
      let a ← part f.2.1 xs f.2.2
      let b ← part f.2.1 ys f.2.2
      let r ← Op.equalIn d f.2.1 a b
      if (!r) = true then pure false else eqF d xs ys fs
    else eqF d xs ys fs
theorem eqF_of (d : Nat) (xs ys : Array Value) : ∀ fs : List Field, Op.eqFields d xs ys fs = eqF d xs ys (fs.map fun f => (f.name, f.type, f.offset))
  | [] => rfl
  | f :: fs => by
    rw [List.map_cons, Op.eqFields, eqF, eqF_of d xs ys fs]
theorem eqF_cons {P : Program} {d : Nat} {xs ys : Array Value} {nm : String} {ty : TypeId} {off : Nat} {fs : List (String × TypeId × Nat)} {w : World} {a b : Value} {r s : Bool} (hn : nm ≠ "_")
    (ha : (part ty xs off).run P w = .ok a w) (hb : (part ty ys off).run P w = .ok b w) (he : (Op.equalIn d ty a b).run P w = .ok r w) (hs : (eqF d xs ys fs).run P w = .ok s w) :
    (eqF d xs ys ((nm, ty, off) :: fs)).run P w = .ok (r && s) w := by
  unfold eqF
  rw [if_pos hn]
  simp only [Sem.run_bind, ha, hb, he, Result.andThen_ok]
  cases r
  · simp
  · simp [hs]
theorem part_one {P : Program} {ty : TypeId} {N off : Nat} {F : Nat → Value} {w : World} (h : (isAgg ty).run P w = .ok false w) (ho : off < N) : (part ty (rowArr N F) off).run P w = .ok (F off) w := by
  have e : (rowArr N F)[off]? = some (F off) := by simp [rowArr, ho]
  simp only [part, Sem.run_bind, h, Result.andThen_ok, e]
  rfl
theorem part_arr {P : Program} {ty : TypeId} {N off n : Nat} {F : Nat → Value} {w : World} (h : (isAgg ty).run P w = .ok true w) (hs : (sizeOf ty).run P w = .ok n w) (ho : off + n ≤ N) : (part ty (rowArr N F) off).run P w = .ok (.agg (rowArr n fun j => F (off + j))) w := by
  have e : (rowArr N F).extract off (off + n) = rowArr n fun j => F (off + j) := by
    apply Array.ext_getElem?
    intro i
    by_cases hi : i < n
    · simp [rowArr, hi, show off + i < N by omega]
    · simp [rowArr, hi]
      omega
  simp [part, Sem.run_bind, h, hs, Result.andThen_ok, e]

/-! Arrays of bytes compared. -/

theorem row_cells (l : List Nat) (n : Nat) (hl : l.length = n) (hb : IsByte l) : rowArr n (vOf l) = ((l.map fun k => UInt8.ofNat k).map Extern.Stop.cell).toArray := by
  apply Array.ext_getElem?
  intro i
  by_cases hi : i < n
  · have hi2 : i < l.length := by omega
    have := hb l[i] (List.getElem_mem hi2)
    simp [rowArr, vOf, byteV, List.getD, hi, hi2, Extern.Stop.cell]
    omega
  · have hi2 : l.length ≤ i := by omega
    simp [rowArr, hi, hi2]
theorem bytes_beq {l m : List Nat} (hl : IsByte l) (hm : IsByte m) : ((l.map fun k => UInt8.ofNat k) == (m.map fun k => UInt8.ofNat k)) = decide (l = m) := by
  have key : ∀ (l m : List Nat), IsByte l → IsByte m → (l.map fun k => UInt8.ofNat k) = (m.map fun k => UInt8.ofNat k) → l = m := by
    intro l
    induction l with
    | nil => intro m _ _ h; cases m with
      | nil => rfl
      | cons y m => simp at h
    | cons x l ih =>
      intro m hl hm h
      cases m with
      | nil => simp at h
      | cons y m =>
        simp only [List.map_cons, List.cons.injEq] at h
        have a1 := hl x (by simp)
        have a2 := hm y (by simp)
        have e : x = y := by
          have := congrArg UInt8.toNat h.1
          simp at this
          omega
        rw [e, ih m (fun z hz => hl z (by simp [hz])) (fun z hz => hm z (by simp [hz])) h.2]
  by_cases e : l = m
  · subst e; simp
  · rw [decide_eq_false e, beq_eq_false_iff_ne]
    exact fun h => e (key l m hl hm h)
theorem str_beq {l m : List Nat} (hl : IsByte l) (hm : IsByte m) : ((strOf l).toList == (strOf m).toList) = decide (l = m) := by
  rw [← bytes_beq hl hm]
  congr 1
  all_goals
    unfold strOf
    rw [ByteArray.toList_eq, strOfNums_data, List.map_map]
    rfl
theorem eq_arr {n : Nat} {t : TypeId} (ht : Tryd.prog.underlying t = some (.array n 5)) {l m : List Nat} (hl : IsByte l) (hm : IsByte m) (hln : l.length = n) (hmn : m.length = n) (d : Nat) (w : World) :
    (Op.equalIn (d + 2) t (.agg (rowArr n (vOf l))) (.agg (rowArr n (vOf m)))).run Tryd.prog w = .ok (decide (l = m)) w := by
  rw [row_cells l n hln hl, row_cells m n hmn hm, run_equalIn_bytes w d t 5 n ht Tryd.underlying5 (fun w => Tryd.sizeOf5 w) _ _ (by simpa using hln) (by simpa using hmn), bytes_beq hl hm]

/-! Files' entries compared. -/

theorem fields_file : (Tryd.prog.fieldsOf 25).toList.map (fun f => (f.name, f.type, f.offset)) = [("Name", 9, 0), ("Size", 3, 1), ("Digest", 23, 2), ("First", 3, 34)] := by kernel_rfl
theorem und_file : Tryd.prog.underlying 25 = some (.struct (Tryd.prog.fieldsOf 25)) := by kernel_rfl
theorem held_file : Tryd.prog.stoodInHeld 25 = false := by kernel_rfl
theorem fil_arr (f : Fil) : (rowArr 32 fun j => filV f (2 + j)) = rowArr 32 (vOf f.dg) := by
  unfold rowArr
  congr 1
theorem fil_eq (f g : Fil) : (f = g) ↔ f.name = g.name ∧ f.size = g.size ∧ f.dg = g.dg ∧ f.first = g.first := by
  cases f; cases g; simp
instance fil_dec : DecidableEq Fil := fun f g => decidable_of_iff _ (fil_eq f g).symm
set_option maxRecDepth 100000 in
theorem eq_file {f g : Fil} (hf : FilOk f) (hg : FilOk g) (d : Nat) (w : World) : (Op.equalIn (d + 3) 25 (.agg (rowArr 35 (filV f))) (.agg (rowArr 35 (filV g)))).run Tryd.prog w = .ok (decide (f = g)) w := by
  rw [run_equalIn_struct w (d + 2) 25 _ _ und_file held_file, eqF_of, fields_file]
  have k1 := part_arr (P := Tryd.prog) (ty := 23) (N := 35) (off := 2) (n := 32) (F := filV f) (w := w) (Tryd.isAgg23 w) (Tryd.sizeOf23 w) (by omega)
  have k2 := part_arr (P := Tryd.prog) (ty := 23) (N := 35) (off := 2) (n := 32) (F := filV g) (w := w) (Tryd.isAgg23 w) (Tryd.sizeOf23 w) (by omega)
  rw [fil_arr] at k1 k2
  have e := eqF_cons (P := Tryd.prog) (d := d + 2) (nm := "Name") (ty := 9) (off := 0) (w := w) (by decide) (part_one (N := 35) (F := filV f) (Tryd.isAgg9 w) (by omega)) (part_one (N := 35) (F := filV g) (Tryd.isAgg9 w) (by omega)) (run_equalIn_string w (d + 1) 9 (strOf f.name) (strOf g.name) Tryd.underlying9)
    (eqF_cons (nm := "Size") (ty := 3) (off := 1) (by decide) (part_one (N := 35) (F := filV f) (Tryd.isAgg3 w) (by omega)) (part_one (N := 35) (F := filV g) (Tryd.isAgg3 w) (by omega)) (run_equalIn_int w (d + 1) 3 .i64 .i64 f.size g.size Tryd.underlying3)
    (eqF_cons (nm := "Digest") (ty := 23) (off := 2) (by decide) k1 k2 (eq_arr Tryd.underlying23 hf.dgb hg.dgb hf.dgl hg.dgl d w)
    (eqF_cons (nm := "First") (ty := 3) (off := 34) (by decide) (part_one (N := 35) (F := filV f) (Tryd.isAgg3 w) (by omega)) (part_one (N := 35) (F := filV g) (Tryd.isAgg3 w) (by omega)) (run_equalIn_int w (d + 1) 3 .i64 .i64 f.first g.first Tryd.underlying3)
    (show (eqF (d + 2) _ _ []).run Tryd.prog w = .ok true w from rfl))))
  rw [e, str_beq hf.byte hg.byte]
  congr 1
  rw [Bool.eq_iff_iff]
  simp [fil_eq]
end Go.Proofs.YthpfjgbhacdpgaaDoor
end

section
namespace Go.Proofs.YthpfjgbhacdpgaaDoor
open Go.ChangeShapes Go.WideShapes Go.ChangeAt Go.RowKit Go.Joins
set_option linter.unusedVariables false

/-- The block b is an In that has these bytes left (none: it is bad), all of it in blocks that X names, none of them below B. -/
def InAt (B : Nat) (X : Nat → Prop) (w : World) (b : Nat) (s : Option (List Nat)) : Prop :=
  X b ∧ (∀ k, X k → B ≤ k ∧ k < w.heap.size) ∧ ∃ a c, w.heap[b]? = some (.cells #[.slice a (s.getD []).length c, .bool s.isNone] 114 (0, 0)) ∧ Sl w a c (s.getD []) ∧ (s.getD []).length ≤ 60000 ∧ ∀ p, a = some p → (s.getD []) ≠ [] → X p.block ∧ p.block ≠ b
theorem InAt.keep {B : Nat} {X Y : Nat → Prop} {w w' : World} {b : Nat} {s : Option (List Nat)} (h : InAt B X w b s) (k : Fr Y w w') (hx : ∀ j, X j → ¬ Y j) : InAt B X w' b s := by
  obtain ⟨h1, h2, a, c, h3, h4, h5, h6⟩ := h
  exact ⟨h1, fun j hj => ⟨(h2 j hj).1, Nat.lt_of_lt_of_le (h2 j hj).2 k.size⟩, a, c, (k.block b (h2 b h1).2 (hx b h1)).trans h3, h4.of_block fun p hp hl => k.block _ (h2 _ (h6 p hp hl).1).2 (hx _ (h6 p hp hl).1), h5, h6⟩
theorem InAt.fail {B : Nat} {X : Nat → Prop} {w : World} {b : Nat} {s : Option (List Nat)} (h : InAt B X w b s) : InAt B X ((w.setCell ⟨b, 0, none⟩ (.slice none 0 0)).setCell ⟨b, 1, none⟩ (.bool true)) b none := by
  obtain ⟨h1, h2, a, c, h3, h4, h5, h6⟩ := h
  refine ⟨h1, fun k hk => by simpa using h2 k hk, none, 0, ?_, nil_sl _, by simp, fun p hp => by cases hp⟩
  have e1 := Joins.block_setCell (i := 0) h3 (.slice none 0 0)
  have e2 := Joins.block_setCell (i := 1) e1 (.bool true)
  simpa using e2
theorem InAt.frame {B : Nat} {X : Nat → Prop} {w : World} {b : Nat} {s : Option (List Nat)} (h : InAt B X w b s) (i : Nat) (u : Value) {v : World} (k : Fr X w v) : Fr X w (v.setCell ⟨b, i, none⟩ u) := k.set (p := ⟨b, i, none⟩) (fun _ => h.1) u

/-- The first n bytes, and what is behind them. -/
theorem Sl.front {w : World} {a : Option Addr} {c : Nat} {l : List Nat} (h : Sl w a c l) (n : Nat) : Sl w a c (l.take n) := by
  refine ⟨fun x hx => h.byte x (List.mem_of_mem_take hx), by have := h.len; rw [List.length_take]; omega, h.most, fun e => by rw [(h.none e).1]; exact ⟨List.take_nil, (h.none e).2⟩, ?_⟩
  rcases h.here with rfl | ⟨b, off, e, hb⟩
  · exact .inl List.take_nil
  · refine .inr ⟨b, off, e, fun i hi => ?_⟩
    rw [hb i (by rw [List.length_take] at hi; omega), List.getElem_take]
theorem Sl.back {w : World} {b off c : Nat} {l : List Nat} (h : Sl w (Option.some ⟨b, off, Option.none⟩) c l) (n : Nat) (hn : n ≤ l.length) : Sl w (Option.some ⟨b, off + n, Option.none⟩) (c - n) (l.drop n) := by
  refine ⟨fun x hx => h.byte x (List.mem_of_mem_drop hx), by have := h.len; rw [List.length_drop]; omega, by have := h.most; omega, fun e => (by cases e), ?_⟩
  rcases h.here with rfl | ⟨b', off', e, hb⟩
  · exact .inl List.drop_nil
  · cases e
    refine .inr ⟨b, off + n, rfl, fun i hi => ?_⟩
    rw [List.length_drop] at hi
    rw [show off + n + i = off + (n + i) by omega, hb (n + i) (by omega), List.getElem_drop]

set_option maxRecDepth 100000 in
theorem fail_any (B : Nat) (X : Nat → Prop) (w : World) (b : Nat) (s : Option (List Nat)) (h : InAt B X w b s) :
    Calls Tryd.prog 82 #[.pointer (some ⟨b, 0, none⟩)] w fun e w' => e = .returned (.tuple #[]) ∧ InAt B X w' b none ∧ Fr X w w' := by
  have HO := Lib.hid h.fail
  have HF := Lib.hid (h.frame 1 (.bool true) (h.frame 0 (.slice none 0 0) (Fr.refl X w)))
  obtain ⟨h1, h2, a, c, h3, h4, h5, h6⟩ := h
  have c0 := cell_of_block (i := 0) h3
  have c1 := cell_of_block (i := 1) h3
  have f0 := unfrozen_of_block h3 0
  have f1 := unfrozen_of_block h3 1
  simp only [List.getElem?_toArray, List.getElem?_cons_zero, List.getElem?_cons_succ] at c0 c1
  clear h1 h2 h3 h4 h5 h6
  go_enter Tryd.func82, Tryd.ntmps82
  go_wp2_with fail
  go_end0
  exact ⟨rfl, HO.out, HF.out⟩
set_option maxRecDepth 100000 in
theorem fail_nil (w : World) : Calls Tryd.prog 82 #[.pointer none] w fun e w' => e = .returned (.tuple #[]) ∧ w = w' := by
  go_enter Tryd.func82, Tryd.ntmps82
  go_wp2_with fail
  go_end0
  exact ⟨rfl, rfl⟩
set_option maxRecDepth 100000 in
theorem take_nil_in (w : World) (n : Int) : Calls Tryd.prog 64 #[.pointer none, .int .i64 n] w fun e w' => e = .returned (.slice none 0 0) ∧ w = w' := by
  go_enter Tryd.func64, Tryd.ntmps64
  go_wp2_with fail
  go_ret
  exact ⟨rfl, rfl⟩

theorem elem8 : Tryd.prog.elem 28 = 5 := by kernel_rfl
theorem und8 : Tryd.prog.underlying 28 = some (.slice (Tryd.prog.elem 28)) := by rw [elem8]; exact Tryd.underlying28
theorem cut_front {w : World} {a : Option Addr} {c : Nat} {l : List Nat} (h : Sl w a c l) (N : Nat) (hN : N ≤ l.length) (W : World) :
    (Instr.slice 28 (.slice a l.length c) none (some (.int .i64 (N : Int))) none).run Tryd.prog W = .ok (.slice a N c) W := by
  have hc := h.len
  rw [run_slice_h W 28 a l.length c und8 .i64 _ (by omega) (by omega), elem8, Tryd.sizeOf5]
  cases a with
  | none => simp [Result.andThen, sliced]
  | some ad => simp [Result.andThen, sliced, Addr.add]
theorem cut_back {w : World} {a : Option Addr} {c : Nat} {l : List Nat} (h : Sl w a c l) (N : Nat) (hN : N ≤ l.length) :
    ∃ a2, (∀ W, (Instr.slice 28 (.slice a l.length c) (some (.int .i64 (N : Int))) none none).run Tryd.prog W = .ok (.slice a2 (l.length - N) (c - N)) W) ∧ Sl w a2 (c - N) (l.drop N) ∧ ∀ p, a2 = some p → l.drop N ≠ [] → ∃ p0, a = some p0 ∧ p.block = p0.block := by
  have hc := h.len
  have hm := h.most
  have hr : ∀ W, (Instr.slice 28 (.slice a l.length c) (some (.int .i64 (N : Int))) none none).run Tryd.prog W = .ok (sliced a N l.length c 1) W := fun W => by
    rw [run_slice_l W 28 a l.length c und8 .i64 _ (by omega) (by omega), elem8, Tryd.sizeOf5]
    simp [Result.andThen]
  unfold sliced at hr
  rw [Nat.mul_one] at hr
  refine ⟨_, hr, ?_, ?_⟩
  · by_cases e : c = N
    · rw [if_pos e]
      have hd : l.drop N = [] := List.drop_eq_nil_of_le (by omega)
      rw [hd]
      exact ⟨by simp [IsByte], by simp, by omega, fun e' => ⟨rfl, by omega⟩, .inl rfl⟩
    · rw [if_neg e]
      by_cases hd : l.drop N = []
      · rw [hd]
        refine ⟨by simp [IsByte], by simp, by omega, fun e' => ?_, .inl rfl⟩
        cases a with
        | none => exact absurd (by have := (h.none rfl); have h2 := this.2; omega) e
        | some ad => simp at e'
      · have hl : N < l.length := by
          rcases Nat.lt_or_ge N l.length with h | h
          · exact h
          · exact absurd (List.drop_eq_nil_of_le h) hd
        obtain ⟨b, off, ea, hb⟩ := h.some hl
        subst ea
        have := h.back N hN
        have e2 : (⟨b, off, none⟩ : Addr).add N = ⟨b, off + N, none⟩ := by
          by_cases n0 : N = 0
          · subst n0; simp [Addr.add]
          · simp [Addr.add, n0]
        simp only [Option.map_some, e2]
        exact this
  · intro p hp hd
    have hl : N < l.length := by
      rcases Nat.lt_or_ge N l.length with h | h
      · exact h
      · exact absurd (List.drop_eq_nil_of_le h) hd
    obtain ⟨b, off, ea, hb⟩ := h.some hl
    subst ea
    rw [if_neg (by omega)] at hp
    have e2 : (⟨b, off, none⟩ : Addr).add N = ⟨b, off + N, none⟩ := by
      by_cases n0 : N = 0
      · subst n0; simp [Addr.add]
      · simp [Addr.add, n0]
    simp only [Option.map_some, e2] at hp
    cases hp
    exact ⟨_, rfl, rfl⟩

/-- What take answers: bytes in the In's own memory. -/
def TakePost (B : Nat) (X : Nat → Prop) (w : World) (b : Nat) (s : Option (List Nat)) (n : Int) (e : Ending) (w' : World) : Prop :=
  ∃ a c, e = .returned (.slice a (ansR s n).length c) ∧ Sl w' a c (ansR s n) ∧ InAt B X w' b (restR s n) ∧ Fr X w w'
set_option maxRecDepth 100000 in
set_option maxHeartbeats 1000000 in
theorem take_any (B : Nat) (X : Nat → Prop) (w : World) (b : Nat) (s : Option (List Nat)) (n : Int) (h : InAt B X w b s) (hn : i64R n) :
    Calls Tryd.prog 64 #[.pointer (some ⟨b, 0, none⟩), .int .i64 n] w (TakePost B X w b s n) := by
  have hn1 := hn.1
  have hn2 := hn.2
  have HFL := Lib.hid (fail_any B X w b s h)
  have H := Lib.hid h
  obtain ⟨h1, h2, a, c, h3, h4, h5, h6⟩ := h
  have c0 := cell_of_block (i := 0) h3
  have c1 := cell_of_block (i := 1) h3
  have f0 := unfrozen_of_block h3 0
  simp only [List.getElem?_toArray, List.getElem?_cons_zero, List.getElem?_cons_succ] at c0 c1
  by_cases g1 : n < 0
  · have HE : Hid (takeI s n = none) := by
      show _ = _
      unfold takeI
      cases s with
      | none => rfl
      | some l => simp only [Option.bind_some]; rw [if_neg (by omega)]
    have d1 : decide (n < 0) = true := decide_eq_true g1
    clear h1 h2 h3 h4 h5 h6
    go_enter Tryd.func64, Tryd.ntmps64
    go_wp2_with fail
    (with_reducible refine HFL.out.mono ?_)
    rintro e w' ⟨rfl, hi, hf⟩
    go_wp2_with fail
    go_ret
    unfold TakePost ansR restR
    rw [HE.out]
    exact ⟨none, 0, rfl, nil_sl _, hi, hf⟩
  · have d1 : decide (n < 0) = false := decide_eq_false g1
    obtain ⟨N, rfl⟩ : ∃ N : Nat, n = (N : Int) := ⟨n.toNat, by omega⟩
    obtain ⟨l, hl⟩ : ∃ l, l = s.getD [] := ⟨_, rfl⟩
    rw [← hl] at c0 h3 h4 h5 h6
    by_cases g2 : l.length < N
    · have HE : Hid (takeI s (N : Int) = none) := by
        show _ = _
        unfold takeI
        cases s with
        | none => rfl
        | some m =>
          simp only [Option.getD_some] at hl
          subst hl
          simp only [Option.bind_some]; rw [if_neg (by omega)]
      have d2 : decide ((l.length : Int) < (N : Int)) = true := decide_eq_true (by omega)
      clear h1 h2 h3 h4 h5 h6 hl
      go_enter Tryd.func64, Tryd.ntmps64
      go_wp2_with fail
      (with_reducible refine HFL.out.mono ?_)
      rintro e w' ⟨rfl, hi, hf⟩
      go_wp2_with fail
      go_ret
      unfold TakePost ansR restR
      rw [HE.out]
      exact ⟨none, 0, rfl, nil_sl _, hi, hf⟩
    · have d2 : decide ((l.length : Int) < (N : Int)) = false := decide_eq_false (by omega)
      have hNl : N ≤ l.length := by omega
      have hNz : (N : Int) ≤ (l.length : Int) := by omega
      obtain ⟨a2, hs2, k1, k2⟩ := cut_back h4 N hNl
      have hs1 := cut_front h4 N hNl
      have HT : Hid (∃ x r, takeI s (N : Int) = (if s.isNone then none else some (x, r)) ∧ x = l.take N ∧ r = l.drop N ∧ (s = none → N = 0 ∧ l = [])) := by
        cases s with
        | none =>
          simp only [Option.getD_none] at hl
          subst hl
          simp at hNl
          exact ⟨_, _, rfl, rfl, rfl, fun _ => ⟨hNl, rfl⟩⟩
        | some m =>
          simp only [Option.getD_some] at hl
          subst hl
          refine ⟨_, _, ?_, rfl, rfl, fun e => by cases e⟩
          simp [takeI, hNl]
      have HA : Hid (ansR s (N : Int) = l.take N ∧ (restR s (N : Int)).getD [] = l.drop N ∧ (restR s (N : Int)).isNone = s.isNone) := by
        obtain ⟨x, r, e1, e2, e3, e4⟩ := HT.out
        show _ ∧ _ ∧ _
        cases s with
        | none =>
          obtain ⟨q1, q2⟩ := e4 rfl
          subst q1 q2
          simp [ansR, restR, takeI]
        | some m =>
          simp only [Option.isNone_some] at e1
          simp [ansR, restR, e1, e2, e3]
      have HI : Hid (InAt B X (w.setCell ⟨b, 0, none⟩ (.slice a2 (l.length - N) (c - N))) b (restR s (N : Int)) ∧ Sl (w.setCell ⟨b, 0, none⟩ (.slice a2 (l.length - N) (c - N))) a c (l.take N)) := by
        obtain ⟨q1, q2, q3⟩ := HA.out
        have hf : ∀ k, k ≠ b → (w.setCell ⟨b, 0, none⟩ (.slice a2 (l.length - N) (c - N))).heap[k]? = w.heap[k]? := fun k hk => Below.heap_setCell _ _ _ _ hk
        refine ⟨⟨h1, fun k hk => by rw [World.size_setCell]; exact h2 k hk, a2, c - N, ?_, ?_, ?_, ?_⟩, ?_⟩
        · have e1 := Joins.block_setCell (i := 0) h3 (.slice a2 (l.length - N) (c - N))
          rw [q2, q3, List.length_drop]
          simpa using e1
        · rw [q2]
          exact k1.of_block fun p hp hd => by
            obtain ⟨p0, e0, e1⟩ := k2 p hp hd
            rw [e1]
            exact hf _ (h6 p0 e0 fun e => hd (by rw [e, List.drop_nil])).2
        · rw [q2, List.length_drop]; omega
        · rw [q2]
          intro p hp hd
          obtain ⟨p0, e0, e1⟩ := k2 p hp hd
          rw [e1]
          exact h6 p0 e0 fun e => hd (by rw [e, List.drop_nil])
        · exact (h4.front N).of_block fun p hp hd => hf _ (h6 p hp fun e => hd (by rw [e, List.take_nil])).2
      have HF : Hid (Fr X w (w.setCell ⟨b, 0, none⟩ (.slice a2 (l.length - N) (c - N)))) := H.out.frame 0 _ (Fr.refl _ _)
      clear h1 h2 h3 h4 h5 h6 hl k1 k2
      go_enter Tryd.func64, Tryd.ntmps64
      go_wp2_with fail
      go_ret
      obtain ⟨q1, q2, q3⟩ := HA.out
      refine ⟨a, c, ?_, by rw [q1]; exact HI.out.2, HI.out.1, HF.out⟩
      rw [q1, List.length_take, Nat.min_eq_left hNl]
      rfl
end Go.Proofs.YthpfjgbhacdpgaaDoor
end

section
namespace Go.Proofs.YthpfjgbhacdpgaaDoor
open Go.ChangeShapes Go.WideShapes Go.ChangeAt Go.RowKit Go.Joins
set_option linter.unusedVariables false

theorem inPost_of {B : Nat} {X : Nat → Prop} {w w' : World} {b : Nat} {s : Option (List Nat)} (h : InAt B X w' b s) (k : Fr X w w') : InPost InAt B X w b s w' := ⟨X, h, fun _ h => .inl h, k⟩
theorem takeI_len {s : Option (List Nat)} {n : Int} {x r : List Nat} (h : takeI s n = some (x, r)) : (x.length : Int) = n := by
  unfold takeI at h
  cases s with
  | none => cases h
  | some l =>
    simp only [Option.bind_some] at h
    split at h
    · rename_i hc
      cases h
      rw [List.length_take]
      omega
    · cases h
theorem ansR_len {s : Option (List Nat)} {n : Int} : (ansR s n).length = 0 ∨ ((ansR s n).length : Int) = n := by
  unfold ansR
  cases h : takeI s n with
  | none => exact .inl rfl
  | some p => exact .inr (takeI_len (r := p.2) (by rw [h]; rfl))

/-! A number. -/

set_option maxRecDepth 100000 in
theorem ofIntC (n : Nat) (h : n < 2 ^ 64) : (BitVec.ofInt 64 (n : Int)).toNat = n := by
  rw [BitVec.toNat_ofInt]
  omega
set_option maxRecDepth 100000 in
theorem or_byte (q x : Nat) (hx : x < 256) (hq : q * 256 + x < 281474976710656) : bits .or .i64 ((q : Int) * 256) (x : Int) = ((q * 256 + x : Nat) : Int) := by
  have e : ((q : Int) * 256) = ((q * 256 : Nat) : Int) := by omega
  rw [e]
  show IntKind.i64.wrap ((BitVec.ofInt 64 ((q * 256 : Nat) : Int) ||| BitVec.ofInt 64 (x : Int)).toNat : Int) = _
  rw [BitVec.toNat_or, ofIntC _ (by omega), ofIntC _ (by omega)]
  have h : q * 256 ||| x = q * 256 + x := by
    have := Nat.two_pow_add_eq_or_of_lt (i := 8) (b := x) (show x < 2 ^ 8 by omega) q
    simp only [Nat.reducePow] at this
    rw [Nat.mul_comm q 256]
    exact this.symm
  rw [h, IntKind.wrap_i64]
  omega

set_option maxRecDepth 100000 in
set_option maxHeartbeats 1000000 in
theorem inN_any (B : Nat) (X : Nat → Prop) (w : World) (b : Nat) (s : Option (List Nat)) (n : Int) (h : InAt B X w b s) (hn : i64R n) :
    Calls Tryd.prog 63 #[.pointer (some ⟨b, 0, none⟩), .int .i64 n] w fun e w' => e = .returned (.int .i64 (ansN s n : Int)) ∧ InAt B X w' b (restN s n) ∧ Fr X w w' := by
  have HZ := Lib.hid (sized_any n w hn)
  by_cases g : 1 ≤ n ∧ n ≤ 6
  · have HSZ : Hid (Calls Tryd.prog 60 #[.int .i64 n] w fun e w' => e = .returned (.bool true) ∧ w = w') := HZ.out.mono fun e w' h => ⟨by rw [h.1, decide_eq_true g], h.2⟩
    have HT := Lib.hid (take_any B X w b s n h hn)
    have HA : Hid (ansN s n = numN (ansR s n) ∧ restN s n = restR s n) := by
      unfold ansN restN ansR restR gN
      rw [if_pos g]
      cases takeI s n with
      | none => exact ⟨rfl, rfl⟩
      | some p => exact ⟨rfl, rfl⟩
    have hlen : (ansR s n).length ≤ 6 := by
      rcases ansR_len (s := s) (n := n) with h | h <;> omega
    obtain ⟨l, hl⟩ : ∃ l, l = ansR s n := ⟨_, rfl⟩
    have HL := Lib.hid hl
    unfold TakePost at HT
    rw [← hl] at HA HT hlen
    clear HZ g hl h
    go_enter Tryd.func63, Tryd.ntmps63
    go_wp2_with fail
    (with_reducible refine HSZ.out.mono ?_)
    rintro e w' ⟨rfl, rfl⟩
    go_wp2_with fail
    (with_reducible refine HT.out.mono ?_)
    rintro e w1 ⟨a, c, rfl, hsl, hin, hfr⟩
    have HS := Lib.hid hsl
    have HI := Lib.hid (And.intro hin hfr)
    have h0 : Hid (numN (l.take 0) = 0) := rfl
    have hbt : Hid (∀ k, k ≤ l.length → numN (l.take k) < 281474976710656) := fun k hk => by
      have h1 := numN_lt (l.take k) fun x hx => hsl.byte x (List.mem_of_mem_take hx)
      rw [List.length_take, Nat.min_eq_left hk] at h1
      have := pow6 (Nat.le_trans hk hlen)
      omega
    clear hsl hin hfr HT HSZ
    go_wp2_with fail
    go_loop [5, 17] (fun v i => ∃ k q : Nat, k ≤ l.length ∧ v = .int .i64 q ∧ i = .int .i64 k ∧ Hid (numN (l.take k) = q)) (fun _ i => l.length - (intOf i).toNat)
    case atStart => exact ⟨0, 0, by omega, rfl, rfl, h0⟩
    case round =>
      obtain ⟨k, q, hk, rfl, rfl, HQ⟩ := hrel
      clear h0
      by_cases hlt : k < l.length
      · obtain ⟨b', off, rfl, hb⟩ := HS.out.some hlt
        have hck := hb k hlt
        have hkz : (k : Int) < (l.length : Int) := by omega
        have hx : l[k] < 256 := HS.out.byte _ (List.getElem_mem hlt)
        have HN : Hid (numN (l.take (k + 1)) = q * 256 + l[k]) := by show _ = _; rw [numN_take hlt, HQ.out]
        have hq2 : q * 256 + l[k] < 281474976710656 := by rw [← HN.out]; exact hbt.out _ hlt
        obtain ⟨x, hxx⟩ : ∃ x, x = l[k] := ⟨_, rfl⟩
        rw [← hxx] at hck hx HN hq2
        clear hxx hb
        have hor := or_byte q x hx hq2
        go_wp2_with fail
        go_round
        case rel => exact ⟨k + 1, q * 256 + x, by omega, by first | rfl | go_num, by go_num, HN⟩
        case measure => simp [intOf]; omega
      · obtain rfl : k = l.length := by omega
        have HF : Hid (ansN s n = q ∧ restN s n = restR s n) := ⟨by rw [HA.out.1, ← HQ.out, List.take_length], HA.out.2⟩
        have hdd : decide ((l.length : Int) < (l.length : Int)) = false := by simp
        have hzz : ¬ (l.length : Int) < (l.length : Int) := by omega
        go_wp2_with fail
        go_ret
        exact ⟨by rw [HF.out.1]; rfl, by rw [HF.out.2]; exact HI.out⟩
  · have HSZ : Hid (Calls Tryd.prog 60 #[.int .i64 n] w fun e w' => e = .returned (.bool false) ∧ w = w') := HZ.out.mono fun e w' h => ⟨by rw [h.1, decide_eq_false g], h.2⟩
    have HFL := Lib.hid (fail_any B X w b s h)
    have HA : Hid (ansN s n = 0 ∧ restN s n = none) := by
      unfold ansN restN gN
      rw [if_neg g]
      exact ⟨rfl, rfl⟩
    clear HZ g h
    go_enter Tryd.func63, Tryd.ntmps63
    go_wp2_with fail
    (with_reducible refine HSZ.out.mono ?_)
    rintro e w' ⟨rfl, rfl⟩
    go_wp2_with fail
    (with_reducible refine HFL.out.mono ?_)
    rintro e w' ⟨rfl, hi, hf⟩
    go_wp2_with fail
    go_ret
    exact ⟨by rw [HA.out.1]; rfl, by rw [HA.out.2]; exact ⟨hi, hf⟩⟩

/-! Text and bytes. -/

theorem gT_eq (s : Option (List Nat)) : ansT s = ansR (restN s 1) (ansN s 1 : Nat) ∧ restT s = restR (restN s 1) (ansN s 1 : Nat) := by
  unfold ansT restT gT ansR restR restN ansN
  cases h : gN s 1 with
  | none => simp [takeI]
  | some p => simp
set_option maxRecDepth 100000 in
set_option maxHeartbeats 1000000 in
theorem inT_any (B : Nat) (X : Nat → Prop) (w : World) (b : Nat) (s : Option (List Nat)) (h : InAt B X w b s) :
    Calls Tryd.prog 65 #[.pointer (some ⟨b, 0, none⟩)] w fun e w' => e = .returned (.string (strOf (ansT s))) ∧ InAt B X w' b (restT s) ∧ Fr X w w' := by
  have HN := Lib.hid (inN_any B X w b s 1 h ⟨by omega, by omega⟩)
  have HG := Lib.hid (gT_eq s)
  have hlt : ansN s 1 < 281474976710656 := by
    unfold ansN gN
    rw [if_pos ⟨by omega, by omega⟩]
    cases h2 : takeI s 1 with
    | none => simp
    | some p =>
      obtain ⟨x, r⟩ := p
      have h3 := takeI_len h2
      have hby : ∀ y ∈ x, y < 256 := by
        obtain ⟨_, _, a, c, _, h4, _⟩ := h
        unfold takeI at h2
        cases s with
        | none => cases h2
        | some l =>
          simp only [Option.bind_some] at h2
          split at h2
          · cases h2
            exact fun y hy => h4.byte y (List.mem_of_mem_take hy)
          · cases h2
      have := numN_lt x hby
      have e : x.length = 1 := by omega
      rw [e] at this
      simp only [Option.map_some, Option.getD_some]
      omega
  obtain ⟨m, hm⟩ : ∃ m, m = ansN s 1 := ⟨_, rfl⟩
  rw [← hm] at HN HG hlt
  clear hm h
  go_enter Tryd.func65, Tryd.ntmps65
  go_wp2_with fail
  (with_reducible refine HN.out.mono ?_)
  rintro e w1 ⟨rfl, hin, hfr⟩
  have HT := Lib.hid (take_any B X w1 b (restN s 1) (m : Int) hin ⟨by omega, by omega⟩)
  have HF := Lib.hid hfr
  have hm64 : (m : Int) ≤ 9223372036854775807 := by omega
  clear hin hfr HN
  go_wp2_with fail
  (with_reducible refine HT.out.mono ?_)
  rintro e w2 ⟨a, c, rfl, hsl, hi, hf⟩
  have HI := Lib.hid (And.intro hi (HF.out.trans hf))
  rw [← HG.out.2] at HI
  obtain ⟨t, ht⟩ : ∃ t, t = ansR (restN s 1) (m : Int) := ⟨_, rfl⟩
  have HA : Hid (ansT s = t) := by rw [ht]; exact HG.out.1
  rw [← ht] at hsl ⊢
  have hcv := conv_sl w2 a c _ hsl
  clear hsl hi hf ht HG HF HT
  go_wp2_with fail
  go_ret
  exact ⟨by rw [HA.out]; rfl, HI.out⟩

set_option maxRecDepth 100000 in
theorem inR_any (B : Nat) (X : Nat → Prop) (w : World) (b : Nat) (s : Option (List Nat)) (n : Int) (h : InAt B X w b s) (hn : i64R n) :
    Calls Tryd.prog 37 #[.pointer (some ⟨b, 0, none⟩), .int .i64 n] w fun e w' => (∃ a c, e = .returned (.slice a (ansR s n).length c) ∧ Sl w' a c (ansR s n) ∧ ∀ p, a = some p → w.heap.size ≤ p.block) ∧ InAt B X w' b (restR s n) ∧ Fr X w w' := by
  have HT := Lib.hid (take_any B X w b s n h hn)
  have hlen : (ansR s n).length ≤ 100000 := by
    obtain ⟨_, _, a, c, _, _, h5, _⟩ := h
    unfold ansR takeI
    cases s with
    | none => simp
    | some l =>
      simp only [Option.bind_some, Option.getD_some] at h5 ⊢
      split
      · simp only [Option.map_some, Option.getD_some, List.length_take]; omega
      · simp
  obtain ⟨t, ht⟩ : ∃ t, t = ansR s n := ⟨_, rfl⟩
  unfold TakePost at HT
  rw [← ht] at HT hlen ⊢
  clear ht h hn
  go_enter Tryd.func37, Tryd.ntmps37
  go_wp2_with fail
  (with_reducible refine HT.out.mono ?_)
  rintro e w1 ⟨a, c, rfl, hsl, hi, hf⟩
  have HC := Lib.hid (clone_new a c t w1 hlen hsl)
  have HI := Lib.hid hi
  have HF := Lib.hid hf
  clear hsl hi hf HT
  go_wp2_with fail
  (with_reducible refine HC.out.mono ?_)
  rintro e w2 ⟨sa, sc, rfl, hsl, hnew, hbw⟩
  have HS := Lib.hid hsl
  have HNW : Hid (∀ p, sa = some p → w.heap.size ≤ p.block) := fun p hp => Nat.le_trans HF.out.size (hnew p hp)
  have HI2 := Lib.hid (And.intro (HI.out.keep (Fr.of_below (X := fun _ => False) hbw) fun _ _ h => h) (HF.out.later hbw))
  clear hsl hnew hbw HC
  go_wp2_with fail
  go_ret
  exact ⟨⟨sa, sc, rfl, HS.out, HNW.out⟩, HI2.out⟩

/-! Left, Bad, Done. -/

set_option maxRecDepth 100000 in
theorem inL_any (B : Nat) (X : Nat → Prop) (w : World) (b : Nat) (s : Option (List Nat)) (h : InAt B X w b s) :
    Calls Tryd.prog 66 #[.pointer (some ⟨b, 0, none⟩)] w fun e w' => e = .returned (.int .i64 (leftI s : Int)) ∧ w = w' := by
  obtain ⟨h1, h2, a, c, h3, h4, h5, h6⟩ := h
  have c0 := cell_of_block (i := 0) h3
  simp only [List.getElem?_toArray, List.getElem?_cons_zero] at c0
  obtain ⟨l, hl⟩ : ∃ l, l = s.getD [] := ⟨_, rfl⟩
  have HL : Hid (leftI s = l.length) := by unfold leftI; rw [hl]; rfl
  rw [← hl] at c0
  clear h1 h2 h3 h4 h5 h6 hl
  go_enter Tryd.func66, Tryd.ntmps66
  go_wp2_with fail
  go_ret
  exact ⟨by rw [HL.out]; rfl, rfl⟩
set_option maxRecDepth 100000 in
theorem inD_any (B : Nat) (X : Nat → Prop) (w : World) (b : Nat) (s : Option (List Nat)) (h : InAt B X w b s) :
    Calls Tryd.prog 68 #[.pointer (some ⟨b, 0, none⟩)] w fun e w' => e = .returned (.bool (decide (s = some []))) ∧ w = w' := by
  obtain ⟨h1, h2, a, c, h3, h4, h5, h6⟩ := h
  have c0 := cell_of_block (i := 0) h3
  have c1 := cell_of_block (i := 1) h3
  simp only [List.getElem?_toArray, List.getElem?_cons_zero, List.getElem?_cons_succ] at c0 c1
  clear h1 h2 h3 h4 h5 h6
  cases s with
  | none =>
    simp only [Option.isNone_none, Option.getD_none] at c0 c1
    have HR : Hid (decide ((none : Option (List Nat)) = some []) = false) := by show _ = _; simp
    go_enter Tryd.func68, Tryd.ntmps68
    go_wp2_with fail
    go_ret
    exact ⟨ret_bool HR.out.symm, rfl⟩
  | some l =>
    simp only [Option.isNone_some, Option.getD_some] at c0 c1
    have HR : Hid (decide (some l = some []) = ((l.length : Int) == 0)) := by
      show _ = _
      cases l with
      | nil => simp
      | cons x l =>
        have : (((x :: l).length : Nat) : Int) ≠ 0 := by rw [List.length_cons]; omega
        rw [beq_eq_false_iff_ne.2 this]
        simp
    go_enter Tryd.func68, Tryd.ntmps68
    go_wp2_with fail
    go_ret
    exact ⟨ret_bool HR.out.symm, rfl⟩

/-! A new one. -/

set_option maxRecDepth 100000 in
theorem inNew_any (w : World) (a : Option Addr) (c : Nat) (l : List Nat) (hs : Sl w a c l) (hl : l.length ≤ 60000) :
    Calls Tryd.prog 36 #[.slice a l.length c] w fun e w' => ∃ b X, e = .returned (.pointer (some ⟨b, 0, none⟩)) ∧ InAt w.heap.size X w' b (some l) ∧ Below w.heap.size w w' := by
  have HC := Lib.hid (clone_new a c l w (by omega) hs)
  have hlm := hs.lt
  clear hs
  go_enter Tryd.func36, Tryd.ntmps36
  go_wp2_with fail
  (with_reducible refine HC.out.mono ?_)
  rintro e w1 ⟨sa, sc, rfl, hsl, hnew, hbw⟩
  have HS := Lib.hid hsl
  have HB := Lib.hid hbw
  have HN := Lib.hid hnew
  clear hsl hbw hnew HC
  go_wp2_with fail
  go_ret
  have e0 : (w1.alloc (.cells #[.slice sa l.length sc, .bool false] 114)).heap[w1.heap.size]? = some (.cells #[.slice sa l.length sc, .bool false] 114 (0, 0)) := heap_alloc_last w1 _
  have hsz : w1.heap.size < (w1.alloc (.cells #[.slice sa l.length sc, .bool false] 114)).heap.size := (Array.getElem?_eq_some_iff.1 e0).1
  have hb1 := HB.out.size
  have ha : Below w1.heap.size w1 (w1.alloc (.cells #[.slice sa l.length sc, .bool false] 114)) := (Below.refl _ _).alloc (Nat.le_refl _) _
  refine ⟨w1.heap.size, fun k => k = w1.heap.size ∨ ∃ p, sa = some p ∧ l ≠ [] ∧ k = p.block, rfl, ⟨.inl rfl, fun k hk => ?_, sa, sc, e0, HS.out.below ha, hl, fun p hp hne => ⟨.inr ⟨p, hp, hne, rfl⟩, fun e => ?_⟩⟩, HB.out.trans (ha.mono hb1)⟩
  · rcases hk with rfl | ⟨p, hp, hne, rfl⟩
    · exact ⟨hb1, hsz⟩
    · exact ⟨HN.out p hp, Nat.lt_trans (HS.out.blk p hp hne) hsz⟩
  · have := HS.out.blk p hp hne
    omega

/-! Of nothing. -/

set_option maxRecDepth 100000 in
theorem inN_nil (w : World) (n : Int) (hn : i64R n) : Calls Tryd.prog 63 #[.pointer none, .int .i64 n] w fun e w' => e = .returned (.int .i64 0) ∧ w = w' := by
  have HZ := Lib.hid (sized_any n w hn)
  have HF := Lib.hid (fail_nil w)
  have HT := Lib.hid (take_nil_in w n)
  by_cases g : 1 ≤ n ∧ n ≤ 6
  · have HSZ : Hid (Calls Tryd.prog 60 #[.int .i64 n] w fun e w' => e = .returned (.bool true) ∧ w = w') := HZ.out.mono fun e w' h => ⟨by rw [h.1, decide_eq_true g], h.2⟩
    clear HZ g
    go_enter Tryd.func63, Tryd.ntmps63
    go_wp2_with fail
    (with_reducible refine HSZ.out.mono ?_)
    rintro e w' ⟨rfl, rfl⟩
    go_wp2_with fail
    (with_reducible refine HT.out.mono ?_)
    rintro e w' ⟨rfl, rfl⟩
    go_wp2_with fail
    go_loop [5, 17] (fun v i => v = .int .i64 0 ∧ i = .int .i64 0) (fun _ _ => 0)
    case atStart => exact ⟨rfl, rfl⟩
    case round =>
      obtain ⟨rfl, rfl⟩ := hrel
      go_wp2_with fail
      go_ret
      exact ⟨rfl, rfl⟩
  · have HSZ : Hid (Calls Tryd.prog 60 #[.int .i64 n] w fun e w' => e = .returned (.bool false) ∧ w = w') := HZ.out.mono fun e w' h => ⟨by rw [h.1, decide_eq_false g], h.2⟩
    clear HZ g
    go_enter Tryd.func63, Tryd.ntmps63
    go_wp2_with fail
    (with_reducible refine HSZ.out.mono ?_)
    rintro e w' ⟨rfl, rfl⟩
    go_wp2_with fail
    (with_reducible refine HF.out.mono ?_)
    rintro e w' ⟨rfl, rfl⟩
    go_wp2_with fail
    go_ret
    exact ⟨rfl, rfl⟩
set_option maxRecDepth 100000 in
theorem inT_nil (w : World) : Calls Tryd.prog 65 #[.pointer none] w fun e w' => e = .returned (.string (strOf [])) ∧ Below w.heap.size w w' := by
  have HN := Lib.hid (inN_nil w 1 ⟨by omega, by omega⟩)
  have HT := Lib.hid (take_nil_in w 0)
  obtain ⟨z, hz⟩ : ∃ z, z = strOf [] := ⟨_, rfl⟩
  have hcv : (convert 28 9 (.slice none 0 0)).run Tryd.prog w = .ok (.string z) w := by rw [hz]; exact conv_sl w none 0 [] (nil_sl w)
  rw [← hz]
  clear hz
  go_enter Tryd.func65, Tryd.ntmps65
  go_wp2_with fail
  (with_reducible refine HN.out.mono ?_)
  rintro e w' ⟨rfl, rfl⟩
  go_wp2_with fail
  (with_reducible refine HT.out.mono ?_)
  rintro e w' ⟨rfl, rfl⟩
  go_wp2_with fail
  go_ret
  exact ⟨rfl, Below.refl _ _⟩
set_option maxRecDepth 100000 in
theorem inR_nil (w : World) (n : Int) (hn : i64R n) : Calls Tryd.prog 37 #[.pointer none, .int .i64 n] w fun e w' => ∃ a c, e = .returned (.slice a 0 c) ∧ Below w.heap.size w w' := by
  have HT := Lib.hid (take_nil_in w n)
  have HC := Lib.hid (clone_new none 0 [] w (by simp) (nil_sl w))
  clear hn
  go_enter Tryd.func37, Tryd.ntmps37
  go_wp2_with fail
  (with_reducible refine HT.out.mono ?_)
  rintro e w' ⟨rfl, rfl⟩
  go_wp2_with fail
  refine HC.out.mono ?_
  rintro e w1 ⟨sa, sc, rfl, hsl, hnew, hbw⟩
  have HB := Lib.hid hbw
  clear hsl hnew hbw HC
  go_wp2_with fail
  go_ret
  exact ⟨sa, sc, rfl, HB.out⟩
set_option maxRecDepth 100000 in
theorem inL_nil (w : World) : Calls Tryd.prog 66 #[.pointer none] w fun e w' => e = .returned (.int .i64 0) ∧ Below w.heap.size w w' := by
  go_enter Tryd.func66, Tryd.ntmps66
  go_wp2_with fail
  go_ret
  exact ⟨rfl, Below.refl _ _⟩
set_option maxRecDepth 100000 in
theorem inD_nil (w : World) : Calls Tryd.prog 68 #[.pointer none] w fun e w' => e = .returned (.bool false) ∧ Below w.heap.size w w' := by
  go_enter Tryd.func68, Tryd.ntmps68
  go_wp2_with fail
  go_ret
  exact ⟨rfl, Below.refl _ _⟩
end Go.Proofs.YthpfjgbhacdpgaaDoor
end
