/-
  A slice of slices of bytes that a call makes by make, and stores into.
  Peeling: what lies in memory between two steps.
-/
import Derived.Test.YtacncbojplmcjaaMg13
section
namespace Go.Proofs.Ytacncbojplmcjaa
open Go.ChangeShapes Go.WideShapes Go.ChangeAt Go.RowKit Go.Joins
set_option linter.unusedVariables false

def nilV (_ : Nat) : Value := .slice none 0 0
theorem infoG : (Try.prog.info? 38).map (fun i => (i.zero, i.size, i.bytes)) = some (some (.slice none 0 0), 1, 24) := by kernel_rfl
set_option maxRecDepth 100000 in
theorem make_grid (n : Nat) (hn : n ≤ 1000000) (w : World) : (Instr.makeSlice 36 (.int .i64 (n : Int)) (.int .i64 (n : Int))).run Try.prog w = .ok (.slice (some ⟨w.heap.size, 0, none⟩) n n) (w.alloc (.cells (rowArr n nilV) 38)) := by
  have h := run_make_row' (P := Try.prog) 36 38 (.slice none 0 0) 24 Try.underlying36 infoG rfl .i64 .i64 n (by omega) (by omega) w
  rw [h]
  congr 3
  apply Array.ext
  · simp [madeCells, rowArr]
  · intro i h1 h2
    simp [madeCells, rowArr, nilV, Nat.mod_one]

/-- Block g holds slices that read as these; the bytes stay. -/
structure Grid (B : Nat) (w : World) (g : Nat) (ls : Rws) : Prop where
  low : B ≤ g
  row : ∃ vs : Nat → Value, Row w g 38 ls.length ls.length vs ∧ ∀ i (h : i < ls.length), ∃ a c, vs i = .slice a ls[i].length c ∧ Rw B w a c ls[i]

theorem nil_rw (B : Nat) (w : World) : Rw B w none 0 [] := ⟨nil_sl w, fun h => absurd rfl h⟩
theorem Grid.new (B n : Nat) (w : World) (hB : B ≤ w.heap.size) : Grid B (w.alloc (.cells (rowArr n nilV) 38)) w.heap.size (List.replicate n []) := by
  refine ⟨hB, nilV, ?_, fun i hi => ⟨none, 0, ?_, ?_⟩⟩
  · rw [List.length_replicate]; exact Row.new_whole w _ _ nilV _ _ rfl rfl
  · simp [nilV]
  · simpa using nil_rw B _
theorem Grid.cell {B : Nat} {w : World} {g : Nat} {ls : Rws} (h : Grid B w g ls) {i : Nat} (hi : i < ls.length) : ∃ a c, w.cell? ⟨g, i, none⟩ = some (.slice a ls[i].length c) ∧ Rw B w a c ls[i] := by
  obtain ⟨vs, hr, hv⟩ := h.row
  obtain ⟨a, c, e, hw⟩ := hv i hi
  exact ⟨a, c, by rw [hr.cell i hi, e], hw⟩
theorem Grid.loose {B : Nat} {w : World} {g : Nat} {ls : Rws} (h : Grid B w g ls) (i : Nat) : w.frozen? ⟨g, i, none⟩ = false := by
  obtain ⟨vs, hr, _⟩ := h.row
  exact hr.loose i
theorem Grid.other {B : Nat} {w : World} {g : Nat} {ls : Rws} (h : Grid B w g ls) : Other B w g := by
  obtain ⟨vs, ⟨cs, e, _⟩, _⟩ := h.row
  exact ⟨h.low, cs, _, _, e, by decide⟩
theorem Grid.lt {B : Nat} {w : World} {g : Nat} {ls : Rws} (h : Grid B w g ls) : g < w.heap.size := by
  obtain ⟨vs, hr, _⟩ := h.row
  exact hr.lt
theorem Grid.set {B : Nat} {w : World} {g : Nat} {ls : Rws} (h : Grid B w g ls) {i : Nat} (hi : i < ls.length) {a : Option Addr} {c : Nat} {x : List Nat} (hx : Rw B w a c x) : Grid B (w.setCell ⟨g, i, none⟩ (.slice a x.length c)) g (ls.set i x) := by
  have hk : Keep B w (w.setCell ⟨g, i, none⟩ (.slice a x.length c)) := (Keep.refl B w).set (p := ⟨g, i, none⟩) h.other _
  obtain ⟨vs, hr, hv⟩ := h.row
  refine ⟨h.low, fun j => if j = i then .slice a x.length c else vs j, ?_, fun j hj => ?_⟩
  · rw [List.length_set]; exact hr.upd i hi _
  · rw [List.length_set] at hj
    by_cases e : j = i
    · subst e
      exact ⟨a, c, by simp, by simpa using hx.keep hk⟩
    · obtain ⟨a', c', e1, e2⟩ := hv j hj
      refine ⟨a', c', ?_, ?_⟩
      · simp only [e, if_false, e1]
        rw [List.getElem_set_ne (Ne.symm e)]
      · rw [List.getElem_set_ne (Ne.symm e)]; exact e2.keep hk
theorem Grid.keep_set {B : Nat} {w : World} {g : Nat} {ls : Rws} (h : Grid B w g ls) (i : Nat) (u : Value) {a : World} (k : Keep B a w) : Keep B a (w.setCell ⟨g, i, none⟩ u) := k.set (p := ⟨g, i, none⟩) h.other u
theorem Grid.below {B : Nat} {w w' : World} {g : Nat} {ls : Rws} (h : Grid B w g ls) (k : Below w.heap.size w w') : Grid B w' g ls := by
  have hlt := h.lt
  obtain ⟨vs, hr, hv⟩ := h.row
  refine ⟨h.low, vs, hr.below k hlt, fun i hi => ?_⟩
  obtain ⟨a, c, e1, e2⟩ := hv i hi
  exact ⟨a, c, e1, e2.below k⟩
/-- As seen by a call behind. -/
theorem Grid.rs {B : Nat} {w : World} {g : Nat} {ls : Rws} (h : Grid B w g ls) (hm : ls.length ≤ 1000000) : Rs w.heap.size w (some ⟨g, 0, none⟩) ls.length ls := by
  refine ⟨Nat.le_refl _, by unfold maxLen; omega, fun e => (by cases e), .inr ⟨g, 0, rfl, h.lt, fun i hi => ?_⟩⟩
  obtain ⟨a, c, e1, e2⟩ := h.cell hi
  exact ⟨a, c, by rw [Nat.zero_add]; exact e1, Rw.of_sl e2.sl⟩
end Go.Proofs.Ytacncbojplmcjaa
end

section
namespace Go.Proofs.Ytacncbojplmcjaa
open Go.ChangeShapes Go.WideShapes Go.ChangeAt Go.RowKit Go.Joins
set_option linter.unusedVariables false

theorem own_kept {w w' : World} {B e s n : Nat} {v : Value} {xs : List Value} (h : w.ownsRow B e s v n xs) (k : ∀ b, v.ownBlock = some b → w'.heap[b]? = w.heap[b]?) : w'.ownsRow B e s v n xs := by
  refine ⟨h.1, ?_⟩
  rcases h.2 with h0 | ⟨g, cap, cur, rfl, hB, hh, r⟩
  · exact .inl h0
  · exact .inr ⟨g, cap, cur, rfl, hB, (k g rfl).trans hh, r⟩
theorem own_at {w : World} {B e s n b : Nat} {v : Value} {xs : List Value} (h : w.ownsRow B e s v n xs) (hb : v.ownBlock = some b) : B ≤ b ∧ b < w.heap.size ∧ ∃ cs, w.heap[b]? = some (.cells cs e (0, 0)) := by
  rcases h.2 with ⟨rfl, _⟩ | ⟨g, cap, cur, rfl, hB, hh, _⟩
  · simp [Value.ownBlock] at hb
  · have : g = b := by simpa [Value.ownBlock] using hb
    subst this
    exact ⟨hB, (Array.getElem?_eq_some_iff.1 hh).1, cur, hh⟩
theorem own_slice {w : World} {B e s n : Nat} {v : Value} {xs : List Value} (h : w.ownsRow B e s v n xs) : ∃ a c, v = .slice a n c := by
  rcases h.2 with ⟨rfl, rfl⟩ | ⟨g, cap, cur, rfl, _⟩
  · exact ⟨none, 0, rfl⟩
  · exact ⟨_, cap, rfl⟩

def encV (P : List (Nat × Nat)) : List Value := P.flatMap fun p => [.int .i64 (p.1 : Int), .int .i64 (p.2 : Int)]
theorem encV_len : ∀ P : List (Nat × Nat), (encV P).length = P.length * 2
  | [] => rfl
  | x :: l => by
    have := encV_len l
    unfold encV at this ⊢
    simp only [List.flatMap_cons, List.length_append, this, List.length_cons]
    simp; omega
theorem encV_app (l m : List (Nat × Nat)) : encV (l ++ m) = encV l ++ encV m := by simp [encV]
theorem encV_get {l : List (Nat × Nat)} : ∀ {i : Nat} (h : i < l.length), (encV l)[i * 2]? = some (.int .i64 ((l[i].1 : Nat) : Int)) ∧ (encV l)[i * 2 + 1]? = some (.int .i64 ((l[i].2 : Nat) : Int)) := by
  induction l with
  | nil => intro i h; simp at h
  | cons x l ih =>
    intro i h
    have e : encV (x :: l) = [.int .i64 (x.1 : Int), .int .i64 (x.2 : Int)] ++ encV l := rfl
    rw [e]
    cases i with
    | zero => exact ⟨rfl, rfl⟩
    | succ i =>
      have := ih (i := i) (by simpa using h)
      simp only [List.getElem_cons_succ]
      refine ⟨?_, ?_⟩
      · rw [List.getElem?_append_right (by simp; omega), show (i + 1) * 2 - [Value.int .i64 (x.1 : Int), .int .i64 (x.2 : Int)].length = i * 2 by simp; omega]; exact this.1
      · rw [List.getElem?_append_right (by simp; omega), show (i + 1) * 2 + 1 - [Value.int .i64 (x.1 : Int), .int .i64 (x.2 : Int)].length = i * 2 + 1 by simp; omega]; exact this.2
/-- A row of pivots that is made by append. -/
def OwnV (B : Nat) (w : World) (v : Value) (P : List (Nat × Nat)) : Prop := w.ownsRow B 68 2 v P.length (encV P)
theorem OwnV.nil (B : Nat) (w : World) : OwnV B w (.slice none 0 0) [] := World.ownsRow_nil _ _ _ _
theorem infoV : (Try.prog.info? 68).map (fun i => (i.zero, i.size, i.bytes)) = some (some (.agg #[.int .i64 0, .int .i64 0]), 2, 16) := by kernel_rfl

/-- A pivot is appended, where the order is open. -/
theorem wp_push_v {o : Oper} {a : Act} {K : Act → World → Prop} {Q : Exit → Act → World → Prop} (w : World) (s x : Operand)
    (ho : o.op = .call { callee := .builtin .append, args := #[s, x], argTypes := #[49, 49] })
    (B : Nat) (v : Value) (l : List (Nat × Nat)) (hs : a.eval s = v) (hown : OwnV B w v l) (g : Nat) (hx : a.eval x = .slice (some ⟨g, 0, none⟩) 1 1)
    (e p : Nat) (h0 : w.cell? ⟨g, 0, none⟩ = some (.int .i64 (e : Int))) (h1 : w.cell? ⟨g, 1, none⟩ = some (.int .i64 (p : Int))) (hB : B ≤ w.heap.size) (hlen : l.length ≤ 1000000)
    (h : ∀ v' w', Hid (OwnV B w' v' (l ++ [(e, p)])) → Hid (w.grownBy w' v.ownBlock) → Hid (v'.ownBlock = v.ownBlock ∨ v'.ownBlock = some w.heap.size) → K (a.put o.dst v') w') : o.wp Try.prog a w K Q := by
  obtain ⟨i0, hi, hz0, hz1, hz2⟩ : ∃ i, Try.prog.info? 68 = some i ∧ i.zero = some (.agg #[.int .i64 0, .int .i64 0]) ∧ i.size = 2 ∧ i.bytes = 16 := by
    have h := infoV
    cases hi : Try.prog.info? 68 with
    | none => rw [hi] at h; cases h
    | some i =>
      rw [hi] at h
      simp only [Option.map_some, Option.some.injEq, Prod.mk.injEq] at h
      exact ⟨i, rfl, h.1, h.2.1, h.2.2⟩
  have hn : ∀ j u, [Value.int .i64 (e : Int), .int .i64 (p : Int)][j]? = some u → w.cell? ((⟨g, 0, none⟩ : Addr).add j) = some u := fun j u hj => by
    match j, hj with
    | 0, hj => simp at hj; subst hj; simpa [Addr.add] using h0
    | 1, hj => simp at hj; subst hj; simpa [Addr.add] using h1
  obtain ⟨v', w', hr, k1, k2, -, k5⟩ := run_append_own_at (P := Try.prog) w B 49 o.type 68 i0 (.agg #[.int .i64 0, .int .i64 0]) 2 16 Try.underlying49 hi hz0 hz1 hz2 rfl (by decide) v l.length _ hown ⟨g, 0, none⟩ 1 1 [.int .i64 (e : Int), .int .i64 (p : Int)] rfl hn (by simp [Value.oneCell']) (by unfold maxLen; omega) (by omega) hB
  unfold Oper.wp execOp
  simp only [ho, resolve, invoke, builtin, Sem.run_bind, Sem.run_pure, Result.andThen_ok, List.map_toArray, List.map_cons, List.map_nil, hs, hx, hr]
  refine h v' w' ?_ k2 k5
  show OwnV B w' v' (l ++ [(e, p)])
  unfold OwnV
  rw [List.length_append, encV_app]
  exact k1
/-- Numbers are appended, where the order is open. -/
theorem wp_push_ns {o : Oper} {a : Act} {K : Act → World → Prop} {Q : Exit → Act → World → Prop} (w : World) (s x : Operand)
    (ho : o.op = .call { callee := .builtin .append, args := #[s, x], argTypes := #[29, 29] })
    (B : Nat) (v : Value) (l : List Nat) (hs : a.eval s = v) (hown : OwnN B w v l) (ad : Addr) (c : Nat) (m : List Nat) (hx : a.eval x = .slice (some ad) m.length c)
    (hcell : ∀ j u, (encN m)[j]? = some u → w.cell? (ad.add j) = some u) (hB : B ≤ w.heap.size) (hlen : l.length + m.length ≤ 1000000)
    (h : ∀ v' w', Hid (OwnN B w' v' (l ++ m)) → Hid (w.grownBy w' v.ownBlock) → Hid (v'.ownBlock = v.ownBlock ∨ v'.ownBlock = some w.heap.size) → K (a.put o.dst v') w') : o.wp Try.prog a w K Q := by
  obtain ⟨i0, hi, hz0, hz1, hz2⟩ := info_q infoN
  obtain ⟨v', w', hr, h1, h2, -, h5⟩ := run_append_own_at (P := Try.prog) w B 29 o.type 3 i0 (.int .i64 0) 1 8 Try.underlying29 hi hz0 hz1 hz2 rfl (by decide) v l.length _ hown ad m.length c (encN m) (by simp [encN]) hcell (by intro u hu; unfold encN at hu; obtain ⟨n, _, rfl⟩ := List.mem_map.1 hu; rfl) (by unfold maxLen; omega) (by omega) hB
  unfold Oper.wp execOp
  simp only [ho, resolve, invoke, builtin, Sem.run_bind, Sem.run_pure, Result.andThen_ok, List.map_toArray, List.map_cons, List.map_nil, hs, hx, hr]
  refine h v' w' ?_ h2 h5
  show OwnN B w' v' (l ++ m)
  unfold OwnN
  rw [List.length_append]
  simpa [encN] using h1

/-- Where the order, the open ones and the queue lie: apart, and ahead of what is made from world w1 on. -/
structure PeFix (w1 : World) (Ob bo : Nat) (q : QP) : Prop where
  hob : Ob < w1.heap.size
  hbo : bo < w1.heap.size
  hq : ∀ b, q.X b → b < w1.heap.size
  ne : Ob ≠ bo
  qo : ¬ q.X Ob
  qb : ¬ q.X bo
/-- What lies in memory between two steps. -/
structure PeSt (w1 : World) (Ob bo n : Nat) (q : QP) (m : Nat) (w : World) (opn : Nat → Bool) (op : Nat → Nat) (P : List (Nat × Nat)) (pv : Value) (H : List Nat) (hv : Value) (L : List Nat) (lv : Value) : Prop where
  fr : Fr (fun b => b = Ob ∨ b = bo ∨ q.X b) w1 w
  ord : w.heap[Ob]? = some (.cells #[pv, hv, lv] 59 (0, 0))
  piv : OwnV w1.heap.size w pv P
  hel : OwnN w1.heap.size w hv H
  lef : OwnN w1.heap.size w lv L
  two : ∀ b, lv.ownBlock = some b → hv.ownBlock ≠ some b
  opn : Row w bo 4 n n (bV opn)
  que : Qi w q m op
section
variable {w1 : World} {Ob bo n : Nat} {q : QP} {m : Nat} {w : World} {opn : Nat → Bool} {op : Nat → Nat} {P : List (Nat × Nat)} {pv : Value} {H : List Nat} {hv : Value} {L : List Nat} {lv : Value}

theorem PeSt.size (h : PeSt w1 Ob bo n q m w opn op P pv H hv L lv) : w1.heap.size ≤ w.heap.size := h.fr.size
theorem PeSt.cells (h : PeSt w1 Ob bo n q m w opn op P pv H hv L lv) : w.cell? ⟨Ob, 0, none⟩ = some pv ∧ w.cell? ⟨Ob, 1, none⟩ = some hv ∧ w.cell? ⟨Ob, 2, none⟩ = some lv := by
  refine ⟨?_, ?_, ?_⟩ <;> rw [cell_of_block h.ord] <;> rfl
/-- pivots' row and the row of held ones are of other kinds. -/
theorem PeSt.pv_hv (h : PeSt w1 Ob bo n q m w opn op P pv H hv L lv) (b : Nat) (h1 : pv.ownBlock = some b) : hv.ownBlock ≠ some b := fun h2 => by
  obtain ⟨_, _, cs, e1⟩ := own_at h.piv h1
  obtain ⟨_, _, cs', e2⟩ := own_at h.hel h2
  rw [e1] at e2
  injection e2 with e2
  injection e2 with _ e2 _
  exact absurd e2 (by decide)
theorem PeSt.pv_lv (h : PeSt w1 Ob bo n q m w opn op P pv H hv L lv) (b : Nat) (h1 : pv.ownBlock = some b) : lv.ownBlock ≠ some b := fun h2 => by
  obtain ⟨_, _, cs, e1⟩ := own_at h.piv h1
  obtain ⟨_, _, cs', e2⟩ := own_at h.lef h2
  rw [e1] at e2
  injection e2 with e2
  injection e2 with _ e2 _
  exact absurd e2 (by decide)
/-- Memory is made, or blocks that have nothing to do with it are written. -/
theorem PeSt.keep {X : Nat → Prop} (h : PeSt w1 Ob bo n q m w opn op P pv H hv L lv) (f : PeFix w1 Ob bo q) {w' : World} (k : Fr X w w') (hx : ∀ b, X b → w1.heap.size ≤ b ∧ pv.ownBlock ≠ some b ∧ hv.ownBlock ≠ some b ∧ lv.ownBlock ≠ some b) : PeSt w1 Ob bo n q m w' opn op P pv H hv L lv := by
  have hs := h.size
  have low : ∀ b, b < w1.heap.size → w'.heap[b]? = w.heap[b]? := fun b hb => k.block b (by omega) fun e => by have := (hx b e).1; omega
  have own : ∀ {e s n : Nat} {v : Value} {xs : List Value}, (∀ b, X b → v.ownBlock ≠ some b) → w.ownsRow w1.heap.size e s v n xs → w'.ownsRow w1.heap.size e s v n xs := fun hv' ho => own_kept ho fun b hb => k.block b (own_at ho hb).2.1 fun e => hv' b e hb
  refine ⟨?_, (low Ob f.hob).trans h.ord, own (fun b e => (hx b e).2.1) h.piv, own (fun b e => (hx b e).2.2.1) h.hel, own (fun b e => (hx b e).2.2.2) h.lef, h.two, ?_, h.que.fr k fun b hb e => by have := (hx b e).1; have := f.hq b hb; omega⟩
  · exact ⟨k.os.trans h.fr.os, k.tape.trans h.fr.tape, k.output.trans h.fr.output, Nat.le_trans hs k.size, fun b hb hn => (low b hb).trans (h.fr.block b hb hn)⟩
  · obtain ⟨cs, r1, r2, r3⟩ := h.opn
    exact ⟨cs, (low bo f.hbo).trans r1, r2, r3⟩
theorem PeSt.later (h : PeSt w1 Ob bo n q m w opn op P pv H hv L lv) (f : PeFix w1 Ob bo q) {w' : World} (k : Below w.heap.size w w') : PeSt w1 Ob bo n q m w' opn op P pv H hv L lv :=
  h.keep f (Fr.of_below (X := fun _ => False) k) fun b e => e.elim
theorem PeSt.own_low (h : PeSt w1 Ob bo n q m w opn op P pv H hv L lv) {b : Nat} (hb : pv.ownBlock = some b ∨ hv.ownBlock = some b ∨ lv.ownBlock = some b) : w1.heap.size ≤ b ∧ b < w.heap.size := by
  rcases hb with hb | hb | hb
  · exact ⟨(own_at h.piv hb).1, (own_at h.piv hb).2.1⟩
  · exact ⟨(own_at h.hel hb).1, (own_at h.hel hb).2.1⟩
  · exact ⟨(own_at h.lef hb).1, (own_at h.lef hb).2.1⟩
/-- The queue changes. -/
theorem PeSt.queue (h : PeSt w1 Ob bo n q m w opn op P pv H hv L lv) (f : PeFix w1 Ob bo q) {w' : World} {op' : Nat → Nat} (k : Fr q.X w w') (hq : Qi w' q m op') : PeSt w1 Ob bo n q m w' opn op' P pv H hv L lv := by
  have hs := h.size
  have own : ∀ {e s n : Nat} {v : Value} {xs : List Value}, w.ownsRow w1.heap.size e s v n xs → w'.ownsRow w1.heap.size e s v n xs := fun ho => own_kept ho fun b hb => k.block b (own_at ho hb).2.1 fun e => by have := f.hq b e; have := (own_at ho hb).1; omega
  refine ⟨h.fr.trans (k.mono fun b _ e => .inr (.inr e)), (k.block Ob (by have := f.hob; omega) f.qo).trans h.ord, own h.piv, own h.hel, own h.lef, h.two, ?_, hq⟩
  obtain ⟨cs, r1, r2, r3⟩ := h.opn
  exact ⟨cs, (k.block bo (by have := f.hbo; omega) f.qb).trans r1, r2, r3⟩
/-- An unknown is closed. -/
theorem PeSt.shut (h : PeSt w1 Ob bo n q m w opn op P pv H hv L lv) (f : PeFix w1 Ob bo q) {p : Nat} (hp : p < n) {opn' : Nat → Bool} (ho : ∀ x, opn' x = if x = p then false else opn x) : PeSt w1 Ob bo n q m (w.setCell ⟨bo, p, none⟩ (.bool false)) opn' op P pv H hv L lv := by
  have hs := h.size
  have k : Fr (fun b => b = bo) w (w.setCell ⟨bo, p, none⟩ (.bool false)) := Fr.set (X := fun b => b = bo) (Fr.refl _ w) (p := ⟨bo, p, none⟩) (fun _ => rfl) _
  have own : ∀ {e s n : Nat} {v : Value} {xs : List Value}, w.ownsRow w1.heap.size e s v n xs → (w.setCell ⟨bo, p, none⟩ (.bool false)).ownsRow w1.heap.size e s v n xs := fun ho => own_kept ho fun b hb => k.block b (own_at ho hb).2.1 fun e => by have := f.hbo; have := (own_at ho hb).1; omega
  refine ⟨h.fr.trans (k.mono fun b _ e => .inr (.inl e)), (k.block Ob (by have := f.hob; omega) f.ne).trans h.ord, own h.piv, own h.hel, own h.lef, h.two, ?_, h.que.fr k fun b hb e => f.qb (e ▸ hb)⟩
  refine h.opn.set_eq p hp _ fun j hj => ?_
  unfold bV
  rw [ho]
  split <;> rfl
/-- A row of the order has grown, and the order tells it. -/
theorem PeSt.grown (h : PeSt w1 Ob bo n q m w opn op P pv H hv L lv) (f : PeFix w1 Ob bo q) {w' : World} {v v' : Value} (hvv : v = pv ∨ v = hv ∨ v = lv) (k : w.grownBy w' v.ownBlock) (e5 : v'.ownBlock = v.ownBlock ∨ v'.ownBlock = some w.heap.size) (i : Nat) :
    Fr (fun b => b = Ob ∨ b = bo ∨ q.X b) w1 (w'.setCell ⟨Ob, i, none⟩ v') ∧ (w'.setCell ⟨Ob, i, none⟩ v').heap[Ob]? = some (.cells (#[pv, hv, lv].setIfInBounds i v') 59 (0, 0)) ∧
    (∀ {e s n : Nat} {u : Value} {xs : List Value}, (∀ b, u.ownBlock = some b → v.ownBlock ≠ some b) → w.ownsRow w1.heap.size e s u n xs → (w'.setCell ⟨Ob, i, none⟩ v').ownsRow w1.heap.size e s u n xs) ∧
    (∀ {e s n : Nat} {xs : List Value}, w'.ownsRow w1.heap.size e s v' n xs → (w'.setCell ⟨Ob, i, none⟩ v').ownsRow w1.heap.size e s v' n xs) ∧
    Row (w'.setCell ⟨Ob, i, none⟩ v') bo 4 n n (bV opn) ∧ Qi (w'.setCell ⟨Ob, i, none⟩ v') q m op := by
  have hs := h.size
  have hob := f.hob
  have hbo := f.hbo
  have hv1 : ∀ b, v.ownBlock = some b → w1.heap.size ≤ b ∧ b < w.heap.size := fun b hb => by
    rcases hvv with rfl | rfl | rfl
    · exact h.own_low (.inl hb)
    · exact h.own_low (.inr (.inl hb))
    · exact h.own_low (.inr (.inr hb))
  have low : ∀ b, b < w1.heap.size → w'.heap[b]? = w.heap[b]? := fun b hb => k.block b (by omega) fun e => by have := (hv1 b e.symm).1; omega
  have put : ∀ b, b ≠ Ob → (w'.setCell ⟨Ob, i, none⟩ v').heap[b]? = w'.heap[b]? := fun b hb => Below.heap_setCell _ _ _ _ hb
  refine ⟨⟨k.os.trans h.fr.os, k.tape.trans h.fr.tape, k.output.trans h.fr.output, ?_, fun b hb hn => ?_⟩, ?_, ?_, ?_, ?_, ?_⟩
  · have := k.size
    have e : (w'.setCell ⟨Ob, i, none⟩ v').heap.size = w'.heap.size := by simp
    omega
  · rw [put b fun e => hn (.inl e), low b hb]
    exact h.fr.block b hb hn
  · exact block_setCell ((low Ob hob).trans h.ord) v'
  · intro e s n u xs hu ho
    refine own_kept ho fun b hb => ?_
    have h1 := own_at ho hb
    rw [put b (by omega)]
    exact k.block b h1.2.1 fun e => hu b hb e.symm
  · intro e s n xs ho
    refine own_kept ho fun b hb => put b ?_
    rcases e5 with e5 | e5
    · have := hv1 b (e5 ▸ hb); omega
    · rw [e5] at hb; injection hb with hb; omega
  · obtain ⟨cs, r1, r2, r3⟩ := h.opn
    exact ⟨cs, (put bo (Ne.symm f.ne)).trans ((low bo hbo).trans r1), r2, r3⟩
  · refine (h.que.fr (Fr.of_grown (X := fun b => v.ownBlock = some b) k fun b e => e) fun b hb e => ?_).fr ((Fr.refl (fun b => b = Ob) w').set (p := ⟨Ob, i, none⟩) (fun _ => rfl) v') fun b hb e => f.qo (e ▸ hb)
    have := hv1 b e
    have := f.hq b hb
    omega
theorem PeSt.pivot (h : PeSt w1 Ob bo n q m w opn op P pv H hv L lv) (f : PeFix w1 Ob bo q) {w' : World} {v' : Value} {P' : List (Nat × Nat)} (ho : OwnV w1.heap.size w' v' P') (k : w.grownBy w' pv.ownBlock) (e5 : v'.ownBlock = pv.ownBlock ∨ v'.ownBlock = some w.heap.size) : PeSt w1 Ob bo n q m (w'.setCell ⟨Ob, 0, none⟩ v') opn op P' v' H hv L lv := by
  obtain ⟨a1, a2, a3, a4, a5, a6⟩ := h.grown f (.inl rfl) k e5 0
  exact ⟨a1, a2, a4 ho, a3 (fun b hb e => h.pv_hv b e hb) h.hel, a3 (fun b hb e => h.pv_lv b e hb) h.lef, h.two, a5, a6⟩
theorem PeSt.held (h : PeSt w1 Ob bo n q m w opn op P pv H hv L lv) (f : PeFix w1 Ob bo q) {w' : World} {v' : Value} {H' : List Nat} (ho : OwnN w1.heap.size w' v' H') (k : w.grownBy w' hv.ownBlock) (e5 : v'.ownBlock = hv.ownBlock ∨ v'.ownBlock = some w.heap.size) : PeSt w1 Ob bo n q m (w'.setCell ⟨Ob, 1, none⟩ v') opn op P pv H' v' L lv := by
  obtain ⟨a1, a2, a3, a4, a5, a6⟩ := h.grown f (.inr (.inl rfl)) k e5 1
  refine ⟨a1, a2, a3 (fun b hb e => h.pv_hv b hb e) h.piv, a4 ho, a3 (fun b hb e => h.two b hb e) h.lef, fun b hb e => ?_, a5, a6⟩
  rcases e5 with e5 | e5
  · exact h.two b hb (e5 ▸ e)
  · have := (h.own_low (.inr (.inr hb))).2
    rw [e5] at e; injection e with e; omega
theorem PeSt.left (h : PeSt w1 Ob bo n q m w opn op P pv H hv L lv) (f : PeFix w1 Ob bo q) {w' : World} {v' : Value} {L' : List Nat} (ho : OwnN w1.heap.size w' v' L') (k : w.grownBy w' lv.ownBlock) (e5 : v'.ownBlock = lv.ownBlock ∨ v'.ownBlock = some w.heap.size) : PeSt w1 Ob bo n q m (w'.setCell ⟨Ob, 2, none⟩ v') opn op P pv H hv L' v' := by
  obtain ⟨a1, a2, a3, a4, a5, a6⟩ := h.grown f (.inr (.inr rfl)) k e5 2
  refine ⟨a1, a2, a3 (fun b hb e => h.pv_lv b hb e) h.piv, a3 (fun b hb e => h.two b e hb) h.hel, a4 ho, fun b hb e => ?_, a5, a6⟩
  rcases e5 with e5 | e5
  · exact h.two b (e5 ▸ hb) e
  · have := (h.own_low (.inr (.inl e))).2
    rw [e5] at hb; injection hb with hb; omega
end

/-- All that stays through the rounds. -/
structure PeEnv (w W : World) (R Ob g bo n : Nat) (q : QP) (es : Eqz) (L : Nat → List Nat) (Bi Ci : Nat) : Prop where
  fix : PeFix W Ob bo q
  low : Below w.heap.size w W
  inr : InR Bi Ci W g n L
  cts : ∀ x e, x < n → (L x).count e = cnt es es.length 0 e x
  r0 : w.heap.size ≤ R
  r1 : R < Ob
  r2 : Ob < Bi
  r3 : Ci ≤ bo
  r4 : ∀ b, q.X b → Ci ≤ b
  r5 : Bi ≤ Ci
  res : W.heap[R]? = some (.cells #[.slice none 0 0, .slice none 0 0, .slice none 0 0] 59 (0, 0))
section
variable {w W : World} {R Ob g bo n : Nat} {q : QP} {es : Eqz} {L : Nat → List Nat} {Bi Ci : Nat}
theorem PeEnv.below (h : PeEnv w W R Ob g bo n q es L Bi Ci) {wr : World} (k : Fr (fun b => b = Ob ∨ b = bo ∨ q.X b) W wr) : Below w.heap.size w wr :=
  h.low.trans (k.below h.low.size fun b hb e => by
    have := h.r0; have := h.r1; have := h.r2; have := h.r3; have := h.r5
    rcases e with e | e | e
    · omega
    · omega
    · have := h.r4 b e; omega)
theorem PeEnv.rows (h : PeEnv w W R Ob g bo n q es L Bi Ci) {wr : World} (k : Fr (fun b => b = Ob ∨ b = bo ∨ q.X b) W wr) : InR Bi Ci wr g n L :=
  h.inr.keep fun b h1 h2 => k.block b (by have := h.fix.hbo; have := h.r3; omega) fun e => by
    have := h.r2; have := h.r3
    rcases e with e | e | e
    · omega
    · omega
    · have := h.r4 b e; omega
theorem PeEnv.row (h : PeEnv w W R Ob g bo n q es L Bi Ci) {y : Nat} (hy : y < n) : ∃ a cap, (∀ wr, Fr (fun b => b = Ob ∨ b = bo ∨ q.X b) W wr → wr.cell? ⟨g, y, none⟩ = some (.slice a (L y).length cap)) ∧ (L y).length ≤ cap ∧ cap ≤ maxLen ∧
    ∀ r, (h : r < (L y).length) → ∃ b, a = some ⟨b, 0, none⟩ ∧ ∀ wr, Fr (fun b => b = Ob ∨ b = bo ∨ q.X b) W wr → wr.cell? ⟨b, r, none⟩ = some (.int .i64 (((L y)[r] : Nat) : Int)) := by
  have key : ∀ {b i : Nat} {u : Value} {wr : World}, Bi ≤ b → b < Ci → Fr (fun b => b = Ob ∨ b = bo ∨ q.X b) W wr → W.cell? ⟨b, i, none⟩ = some u → wr.cell? ⟨b, i, none⟩ = some u := fun {b i u wr} h1 h2 k hc =>
    (World.cell?_of_block (a := ⟨b, i, none⟩) (k.block b (by have := h.fix.hbo; have := h.r3; omega) fun e => by
      have := h.r2; have := h.r3
      rcases e with e | e | e
      · omega
      · omega
      · have := h.r4 b e; omega)).trans hc
  obtain ⟨a, cap, h1, h2, h3, h4⟩ := h.inr.row y hy
  refine ⟨a, cap, fun wr k => key h.inr.lo h.inr.hi k h1, h2, h3, fun r hr => ?_⟩
  obtain ⟨b, e, k1, k2, k3⟩ := h4 r hr
  exact ⟨b, e, fun wr k => key k1 k2 k k3⟩
theorem PeEnv.out (h : PeEnv w W R Ob g bo n q es L Bi Ci) {wr : World} (k : Fr (fun b => b = Ob ∨ b = bo ∨ q.X b) W wr) : wr.heap[R]? = some (.cells #[.slice none 0 0, .slice none 0 0, .slice none 0 0] 59 (0, 0)) :=
  (k.block R (by have := h.fix.hob; have := h.r1; omega) fun e => by
    have := h.r1; have := h.r2; have := h.r3; have := h.r5
    rcases e with e | e | e
    · omega
    · omega
    · have := h.r4 R e; omega).trans h.res
end

theorem Qi.norm {w : World} {q : QP} {m : Nat} {op : Nat → Nat} (h : Qi w q m op) : ∃ q' : QP, q'.qb = q.qb ∧ Qi w q' m op ∧ (∀ b, q'.X b → b < w.heap.size) ∧ ∀ b, q'.X b → q.X b := by
  obtain ⟨l, at_, h1, h2⟩ := h
  rcases h1.here with ⟨k1, k2, k3⟩ | ⟨k1, k2, k3⟩
  · refine ⟨{ q with eb := q.qb }, rfl, ⟨l, at_, ⟨h1.head, .inl ⟨k1, k2, k3⟩, h1.len, h1.most, h1.short, h1.arow, h1.orow, h1.d1, h1.d2, h1.d3, h1.low, h1.nd, h1.pos, h1.few, h1.opb⟩, h2⟩, fun b hb => ?_, fun b hb => ?_⟩
    · rcases hb with e | e | e | e
      · rw [e]; exact h1.lt
      · rw [e]; exact h1.arow.lt
      · rw [e]; exact h1.orow.lt
      · rw [e]; exact h1.lt
    · rcases hb with e | e | e | e
      · exact .inl e
      · exact .inr (.inl e)
      · exact .inr (.inr (.inl e))
      · exact .inl e
  · refine ⟨q, rfl, ⟨l, at_, h1, h2⟩, fun b hb => ?_, fun b hb => hb⟩
    rcases hb with e | e | e | e
    · rw [e]; exact h1.lt
    · rw [e]; exact h1.arow.lt
    · rw [e]; exact h1.orow.lt
    · rw [e]; exact k2.lt
theorem newQueue_at (a : Option Addr) (cap : Nat) (es : Eqz) (hlen : es.length ≤ 1000) (hfew : ∀ l ∈ es, l.length ≤ 1000000) (w : World) (hs : Er w a cap es) :
    Calls Try.prog 30 #[.slice a es.length cap] w fun e w' => ∃ q, e = .returned (.pointer (some ⟨q.qb, 0, none⟩)) ∧ Qi w' q es.length (opO es fun _ => true) ∧ (∀ b, q.X b → w.heap.size ≤ b) ∧ Below w.heap.size w w' ∧ ∀ b, q.X b → b < w'.heap.size := by
  refine (newQueue_any a cap es hlen hfew w hs).mono ?_
  rintro e w' ⟨q, rfl, h1, h2, h3⟩
  rw [opK_all] at h1
  obtain ⟨q', k1, k2, k3, k4⟩ := h1.norm
  exact ⟨q', by rw [k1], k2, fun b hb => h2 b (k4 b hb), h3, k3⟩

theorem own_lower {A B : Nat} {w : World} {e s n : Nat} {v : Value} {xs : List Value} (h : w.ownsRow B e s v n xs) (k : A ≤ B) : w.ownsRow A e s v n xs := by
  refine ⟨h.1, ?_⟩
  rcases h.2 with e | ⟨g, cap, cur, e, hb, r⟩
  · exact .inl e
  · exact .inr ⟨g, cap, cur, e, by omega, r⟩
theorem Parts.all {n : Nat} {opn : Nat → Bool} {P : List (Nat × Nat)} {H : List Nat} (h : Parts n opn P H) : (P.map Prod.snd ++ H ++ leftTo opn n).Nodup ∧ ∀ x, x ∈ P.map Prod.snd ++ H ++ leftTo opn n ↔ x < n := by
  have hm : ∀ x, x ∈ leftTo opn n ↔ x < n ∧ opn x = true := fun x => by
    unfold leftTo
    rw [List.mem_filter, List.mem_range]
  refine ⟨?_, fun x => ?_⟩
  · rw [List.nodup_append]
    refine ⟨h.nd, ?_, fun x hx y hy e => ?_⟩
    · unfold leftTo; exact List.Pairwise.sublist List.filter_sublist List.nodup_range
    · subst e
      have h1 := (h.mem x (h.low x hx)).1 hx
      rw [((hm x).1 hy).2] at h1
      cases h1
  · rw [List.mem_append, hm]
    constructor
    · rintro (h1 | h1)
      · exact h.low x h1
      · exact h1.1
    · intro hx
      cases ho : opn x with
      | false => exact .inl ((h.mem x hx).2 ho)
      | true => exact .inr ⟨hx, rfl⟩

theorem peeled_of {es : Eqz} {n : Nat} {opn : Nat → Bool} {P : List (Nat × Nat)} {H : List Nat} (h : Parts n opn P H) (u : Used es opn P H) (hd : ∀ e, e < es.length → opO es opn e = 0) : Peeled es n P H (leftTo opn n) := by
  refine ⟨h.all.1, h.all.2, u.own, u.ahead, fun x hx e he => ?_⟩
  by_cases hlt : e < es.length
  · have h1 := hd e hlt
    unfold opO at h1
    rw [List.countP_eq_zero] at h1
    unfold leftTo at hx
    rw [List.mem_filter] at hx
    exact h1 x he hx.2
  · rw [List.getD, List.getElem?_eq_none (by omega)] at he
    simp [pl] at he
theorem ord_two {w : World} {Ob : Nat} {pv hv lv : Value} (h : w.heap[Ob]? = some (.cells #[pv, hv, lv] 59 (0, 0))) : w.cell? ⟨Ob, 2, none⟩ = some lv ∧ w.frozen? ⟨Ob, 2, none⟩ = false :=
  ⟨by rw [cell_of_block h]; rfl, unfrozen_of_block h 2⟩
theorem PeSt.left_push {w1 : World} {Ob bo n : Nat} {q : QP} {m : Nat} {w : World} {opn : Nat → Bool} {op : Nat → Nat} {P : List (Nat × Nat)} {pv : Value} {H : List Nat} {hv : Value} {L : List Nat} {lv : Value} (h : PeSt w1 Ob bo n q m w opn op P pv H hv L lv) (f : PeFix w1 Ob bo q) {w' : World} (k : w.grownBy w' lv.ownBlock) :
    w'.cell? ⟨Ob, 2, none⟩ = some lv ∧ w'.frozen? ⟨Ob, 2, none⟩ = false :=
  ord_two ((k.block Ob (Nat.lt_of_lt_of_le f.hob h.size) fun e => by have := (h.own_low (.inr (.inr e.symm))).1; have := f.hob; omega).trans h.ord)
end Go.Proofs.Ytacncbojplmcjaa
end
