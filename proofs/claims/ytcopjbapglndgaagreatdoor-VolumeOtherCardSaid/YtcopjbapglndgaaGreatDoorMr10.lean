/-
  Packets: plain mathematics. What a packet's bytes are, and that they tell the packet.
  Structs that hold arrays: a part of a block loaded as one value; files' entries compared.
  Packets that came in.
  Layer 14's law functions: few; same, of one packet twice.
  Layer 14's law function same: a packet is like itself, wherever its slices lie.
  The document's Count: how many slices so many bytes are.
-/
import Derived.Test.YtcopjbapglndgaaGreatDoorMr9
import Derived.Laws.StructEq
import Derived.Stop.BytesEq
import Derived.SizedLaws
import Derived.Deep.Slices
import Derived.Lib.SmallJoins
import Derived.Deep.DeepCutAuto
section
namespace Go.Proofs.YtcopjbapglndgaaGreatDoor
set_option linter.unusedVariables false

/-- A packet. -/
structure Pk where
  set : List Nat
  kind : Int
  slice : Int
  files : Int
  slices : Int
  index : Int
  file : Fil
  sums : List Sm
  id : Nat
  data : List Nat
def zFil : Fil := ⟨[], 0, List.replicate 32 0, 0⟩
/-- What any packet is that came in. -/
structure PkIn (p : Pk) : Prop where
  set8 : p.set.length = 8
  setb : IsByte p.set
  kind : i64R p.kind
  slice : i64R p.slice
  files : i64R p.files
  slices : i64R p.slices
  index : i64R p.index
  file : FilOk p.file
  sums : ∀ x ∈ p.sums, SmOk x
  id : p.id < 4294967296
  data : IsByte p.data
def zNone (p : Pk) : Prop := p.slice = 0 ∧ p.files = 0 ∧ p.slices = 0
def zSym (p : Pk) : Prop := p.id = 0 ∧ p.data = []
/-- A packet that is formed. -/
def ok1 (p : Pk) : Prop := p.kind = 1 ∧ (0 ≤ p.slice ∧ p.slice < 65536) ∧ (0 ≤ p.files ∧ p.files < 256) ∧ (0 ≤ p.slices ∧ p.slices < 65536) ∧ p.index = 0 ∧ p.file = zFil ∧ p.sums = [] ∧ zSym p
def ok2 (p : Pk) : Prop := p.kind = 2 ∧ zNone p ∧ (0 ≤ p.index ∧ p.index < 256) ∧ p.file.name.length < 256 ∧ (0 ≤ p.file.size ∧ p.file.size < 4294967296) ∧ (0 ≤ p.file.first ∧ p.file.first < 65536) ∧ p.sums = [] ∧ zSym p
def ok3 (p : Pk) : Prop := p.kind = 3 ∧ zNone p ∧ p.file = zFil ∧ zSym p ∧ (0 ≤ p.index ∧ p.index < 256) ∧ p.sums.length < 65536 ∧ ∀ x ∈ p.sums, 0 ≤ x.n ∧ x.n < 65536
def ok4 (p : Pk) : Prop := p.kind = 4 ∧ zNone p ∧ p.file = zFil ∧ p.index = 0 ∧ p.sums = [] ∧ 1 ≤ p.data.length ∧ p.data.length ≤ 256
def pkOk (p : Pk) : Prop := ok1 p ∨ ok2 p ∨ ok3 p ∨ ok4 p
def pkBody (p : Pk) : List Nat := if p.kind = 1 then mainN p.slice p.files p.slices else if p.kind = 2 then fileN p.index p.file else if p.kind = 3 then sumsN p.index p.sums else symbolN p.id p.data
def pkBytes (p : Pk) : List Nat := bytesN p.set p.kind (pkBody p)

theorem wide_inj {n v v' : Nat} (h : wideN v n = wideN v' n) (h1 : v < 256 ^ n) (h2 : v' < 256 ^ n) : v = v' := by
  have := congrArg numN h
  rwa [numN_wide n v h1, numN_wide n v' h2] at this
theorem u64N_of {z : Int} (h : 0 ≤ z) (h2 : z < 4294967296) : (u64N z : Int) = z := by unfold u64N; omega
theorem u8N_of {z : Int} (h : 0 ≤ z) (h2 : z < 256) : (u8N z : Int) = z := by unfold u8N; omega
theorem kind_of {p : Pk} (h : pkOk p) : p.kind = 1 ∨ p.kind = 2 ∨ p.kind = 3 ∨ p.kind = 4 := by
  rcases h with h | h | h | h
  · exact .inl h.1
  · exact .inr (.inl h.1)
  · exact .inr (.inr (.inl h.1))
  · exact .inr (.inr (.inr h.1))
theorem body_len {p : Pk} (hi : PkIn p) (h : pkOk p) : (pkBody p).length ≤ 2600000 := by
  unfold pkBody
  rcases h with h | h | h | h
  · rw [if_pos h.1]
    unfold mainN
    rw [List.length_append, List.length_append, wideN_len, wideN_len]
    simp
  · rw [if_neg (by rw [h.1]; decide), if_pos h.1]
    unfold fileN
    have := h.2.2.2.1
    simp only [List.length_append, wideN_len, hi.file.dgl, List.length_cons, List.length_nil]
    omega
  · rw [if_neg (by rw [h.1]; decide), if_neg (by rw [h.1]; decide), if_pos h.1]
    unfold sumsN
    have := h.2.2.2.2.2.1
    rw [List.length_append, List.length_append, wideN_len, sums_len hi.sums]
    simp
    omega
  · rw [if_neg (by rw [h.1]; decide), if_neg (by rw [h.1]; decide), if_neg (by rw [h.1]; decide)]
    unfold symbolN
    have := h.2.2.2.2.2.2
    rw [List.length_append, wideN_len]
    omega
theorem kb_len (k : Int) (b : List Nat) : (kbN k b).length = 1 + b.length := by unfold kbN; simp [Nat.add_comm]
theorem bytes_len {set : List Nat} (h : set.length = 8) (k : Int) (b : List Nat) : (bytesN set k b).length = 49 + b.length := by
  unfold bytesN
  simp only [List.length_append, wideN_len, dgN_len, h, kb_len, List.length_cons, List.length_nil]
  omega
theorem bytes_inj {set set' : List Nat} {k k' : Int} {b b' r r' : List Nat} (h8 : set.length = 8) (h8' : set'.length = 8) (hb : b.length ≤ 2600000) (hb' : b'.length ≤ 2600000) (h : bytesN set k b ++ r = bytesN set' k' b' ++ r') : set = set' ∧ u8N k = u8N k' ∧ b = b' ∧ r = r' := by
  unfold bytesN at h
  simp only [List.append_assoc] at h
  obtain ⟨_, h⟩ := List.append_inj h rfl
  obtain ⟨e1, h⟩ := List.append_inj h (by rw [wideN_len, wideN_len])
  have e1 := wide_inj e1 (by rw [kb_len]; omega) (by rw [kb_len]; omega)
  obtain ⟨e2, h⟩ := List.append_inj h (by rw [h8, h8'])
  obtain ⟨_, h⟩ := List.append_inj h (by rw [dgN_len, dgN_len])
  obtain ⟨e3, h⟩ := List.append_inj h (by omega)
  unfold kbN at e3
  simp only [List.singleton_append, List.cons.injEq] at e3
  exact ⟨e2, e3.1, e3.2, h⟩
theorem sm_inj {x y : Sm} (hx : SmOk x) (hy : SmOk y) (h1 : 0 ≤ x.n ∧ x.n < 65536) (h2 : 0 ≤ y.n ∧ y.n < 65536) (h : sumN x = sumN y) : x = y := by
  unfold sumN at h
  rw [List.append_assoc, List.append_assoc] at h
  obtain ⟨e1, h⟩ := List.append_inj h (by rw [wideN_len, wideN_len])
  obtain ⟨e2, e3⟩ := List.append_inj h (by rw [wideN_len, wideN_len])
  have a1 := u64N_of h1.1 (by omega)
  have a2 := u64N_of h2.1 (by omega)
  have e1 := wide_inj e1 (by omega) (by omega)
  have e2 := wide_inj e2 (by have := hx.2.1; omega) (by have := hy.2.1; omega)
  cases x
  cases y
  simp only at e1 e2 e3 a1 a2
  subst e2 e3
  congr 1
  omega
theorem sms_inj : ∀ {l m : List Sm}, l.length = m.length → (∀ x ∈ l, SmOk x ∧ 0 ≤ x.n ∧ x.n < 65536) → (∀ x ∈ m, SmOk x ∧ 0 ≤ x.n ∧ x.n < 65536) → (l.map sumN).flatten = (m.map sumN).flatten → l = m
  | [], [], _, _, _, _ => rfl
  | [], y :: m, h, _, _, _ => by simp at h
  | x :: l, [], h, _, _, _ => by simp at h
  | x :: l, y :: m, h, hl, hm, e => by
    rw [List.map_cons, List.map_cons, List.flatten_cons, List.flatten_cons] at e
    have hx := hl x (by simp)
    have hy := hm y (by simp)
    obtain ⟨e1, e2⟩ := List.append_inj e (by rw [sumN_len hx.1, sumN_len hy.1])
    rw [sm_inj hx.1 hy.1 hx.2 hy.2 e1, sms_inj (by simpa using h) (fun z hz => hl z (by simp [hz])) (fun z hz => hm z (by simp [hz])) e2]
/-- The bytes of a formed packet tell it, whatever is behind. -/
theorem pk_unique {p q : Pk} (ip : PkIn p) (iq : PkIn q) (op : pkOk p) (oq : pkOk q) {r r' : List Nat} (h : pkBytes p ++ r = pkBytes q ++ r') : p = q ∧ r = r' := by
  unfold pkBytes at h
  obtain ⟨e1, e2, e3, e4⟩ := bytes_inj ip.set8 iq.set8 (body_len ip op) (body_len iq oq) h
  have kp := kind_of op
  have kq := kind_of oq
  have ek : p.kind = q.kind := by
    have a1 := u8N_of (z := p.kind) (by omega) (by omega)
    have a2 := u8N_of (z := q.kind) (by omega) (by omega)
    omega
  refine ⟨?_, e4⟩
  clear h e4 e2
  obtain ⟨s1, k1, a1, b1, c1, i1, f1, m1, d1, t1⟩ := p
  obtain ⟨s2, k2, a2, b2, c2, i2, f2, m2, d2, t2⟩ := q
  simp only at e1 ek
  subst e1 ek
  rcases op with o | o | o | o <;> rcases oq with o' | o' | o' | o' <;> have ko := o.1 <;> have ko' := o'.1 <;> simp only at ko ko' <;> first | (exfalso; omega) | skip
  all_goals
    subst ko
    simp only [pkBody] at e3
  · obtain ⟨_, x1, x2, x3, x4, x5, x6, x7, x8⟩ := o
    obtain ⟨_, y1, y2, y3, y4, y5, y6, y7, y8⟩ := o'
    simp only at x1 x2 x3 x4 x5 x6 x7 x8 y1 y2 y3 y4 y5 y6 y7 y8
    simp only [if_true, mainN, List.append_assoc] at e3
    obtain ⟨z1, e3⟩ := List.append_inj e3 (by rw [wideN_len, wideN_len])
    simp only [List.singleton_append, List.cons.injEq] at e3
    obtain ⟨z2, z3⟩ := e3
    have w1 := u64N_of x1.1 (by omega); have w2 := u64N_of y1.1 (by omega)
    have w3 := u64N_of x3.1 (by omega); have w4 := u64N_of y3.1 (by omega)
    have w5 := u8N_of x2.1 x2.2; have w6 := u8N_of y2.1 y2.2
    have z1 := wide_inj z1 (by omega) (by omega)
    have z3 := wide_inj z3 (by omega) (by omega)
    subst x4 x5 x6 x7 x8 y4 y5 y6 y7 y8
    congr 1 <;> omega
  · obtain ⟨_, ⟨x1, x2, x3⟩, x4, x5, x6, x7, x8, x9, xa⟩ := o
    obtain ⟨_, ⟨y1, y2, y3⟩, y4, y5, y6, y7, y8, y9, ya⟩ := o'
    have jp := ip.file
    have jq := iq.file
    simp only at x1 x2 x3 x4 x5 x6 x7 x8 x9 xa y1 y2 y3 y4 y5 y6 y7 y8 y9 ya jp jq
    simp only [show ¬ ((2 : Int) = 1) by decide, if_true, if_false, fileN, List.append_assoc] at e3
    obtain ⟨z1, e3⟩ := List.append_inj e3 (by simp)
    simp only [List.cons.injEq, and_true] at z1
    obtain ⟨z1, z2⟩ := z1
    have w1 := u8N_of x4.1 x4.2; have w2 := u8N_of y4.1 y4.2
    have w3 := u8N_of (z := (f1.name.length : Int)) (by omega) (by omega); have w4 := u8N_of (z := (f2.name.length : Int)) (by omega) (by omega)
    obtain ⟨z3, e3⟩ := List.append_inj e3 (by omega)
    obtain ⟨z4, e3⟩ := List.append_inj e3 (by rw [wideN_len, wideN_len])
    obtain ⟨z5, z6⟩ := List.append_inj e3 (by rw [jp.dgl, jq.dgl])
    have w5 := u64N_of x6.1 x6.2; have w6 := u64N_of y6.1 y6.2
    have w7 := u64N_of x7.1 (by omega); have w8 := u64N_of y7.1 (by omega)
    have z4 := wide_inj z4 (by omega) (by omega)
    have z6 := wide_inj z6 (by omega) (by omega)
    subst x1 x2 x3 x8 x9 xa y1 y2 y3 y8 y9 ya
    obtain ⟨n1, u1, g1, v1⟩ := f1
    obtain ⟨n2, u2, g2, v2⟩ := f2
    simp only at z3 z5 w5 w6 w7 w8 z4 z6
    subst z3 z5
    have q1 : i1 = i2 := by omega
    have q2 : u1 = u2 := by omega
    have q3 : v1 = v2 := by omega
    subst q1 q2 q3
    rfl
  · obtain ⟨_, ⟨x1, x2, x3⟩, x4, ⟨x5, x6⟩, x7, x8, x9⟩ := o
    obtain ⟨_, ⟨y1, y2, y3⟩, y4, ⟨y5, y6⟩, y7, y8, y9⟩ := o'
    have jp := ip.sums
    have jq := iq.sums
    simp only at x1 x2 x3 x4 x5 x6 x7 x8 x9 y1 y2 y3 y4 y5 y6 y7 y8 y9 jp jq
    simp only [show ¬ ((3 : Int) = 1) by decide, show ¬ ((3 : Int) = 2) by decide, if_true, if_false, sumsN, List.append_assoc] at e3
    obtain ⟨z1, e3⟩ := List.append_inj e3 (by simp)
    simp only [List.cons.injEq, and_true] at z1
    obtain ⟨z2, z3⟩ := List.append_inj e3 (by rw [wideN_len, wideN_len])
    have w1 := u8N_of x7.1 x7.2; have w2 := u8N_of y7.1 y7.2
    have z2 := wide_inj z2 (by omega) (by omega)
    have z4 := sms_inj z2 (fun x hx => ⟨jp x hx, x9 x hx⟩) (fun x hx => ⟨jq x hx, y9 x hx⟩) z3
    subst x1 x2 x3 x4 x5 x6 y1 y2 y3 y4 y5 y6 z4
    have q1 : i1 = i2 := by omega
    subst q1
    rfl
  · obtain ⟨_, ⟨x1, x2, x3⟩, x4, x5, x6, x7, x8⟩ := o
    obtain ⟨_, ⟨y1, y2, y3⟩, y4, y5, y6, y7, y8⟩ := o'
    have jp := ip.id
    have jq := iq.id
    simp only at x1 x2 x3 x4 x5 x6 x7 x8 y1 y2 y3 y4 y5 y6 y7 y8 jp jq
    simp only [show ¬ ((4 : Int) = 1) by decide, show ¬ ((4 : Int) = 2) by decide, show ¬ ((4 : Int) = 3) by decide, if_false, symbolN] at e3
    obtain ⟨z1, z2⟩ := List.append_inj e3 (by rw [wideN_len, wideN_len])
    have z1 := wide_inj z1 (by omega) (by omega)
    subst x1 x2 x3 x4 x5 x6 y1 y2 y3 y4 y5 y6 z1 z2
    rfl
/-- What begins bytes. -/
def Begins (l : List Nat) (p : Pk) (n : Nat) : Prop := PkIn p ∧ pkOk p ∧ n = (pkBytes p).length ∧ ∃ r, l = pkBytes p ++ r
theorem begins_one {l : List Nat} {p q : Pk} {n m : Nat} (h : Begins l p n) (k : Begins l q m) : p = q ∧ n = m := by
  obtain ⟨h1, h2, h3, r, h4⟩ := h
  obtain ⟨k1, k2, k3, r', k4⟩ := k
  obtain ⟨e, _⟩ := pk_unique h1 k1 h2 k2 (h4.symm.trans k4)
  subst e
  exact ⟨rfl, by rw [h3, k3]⟩
theorem begins_le {l : List Nat} {p : Pk} {n : Nat} (h : Begins l p n) : n ≤ l.length ∧ 50 ≤ n ∧ l.take n = pkBytes p := by
  obtain ⟨h1, h2, h3, r, h4⟩ := h
  have hn : 50 ≤ (pkBytes p).length := by
    unfold pkBytes
    rw [bytes_len h1.set8]
    have : 1 ≤ (pkBody p).length := by
      unfold pkBody
      split
      · unfold mainN; simp [wideN_len]
      · split
        · unfold fileN; simp
        · split
          · unfold sumsN; simp
          · unfold symbolN; simp [wideN_len]; omega
    omega
  refine ⟨by rw [h3, h4, List.length_append]; omega, by omega, ?_⟩
  rw [h3, h4, List.take_left']
  rfl
theorem begins_self {p : Pk} (h1 : PkIn p) (h2 : pkOk p) (r : List Nat) : Begins (pkBytes p ++ r) p (pkBytes p).length := ⟨h1, h2, rfl, r, rfl⟩
end Go.Proofs.YtcopjbapglndgaaGreatDoor
end

section
namespace Go.Proofs.YtcopjbapglndgaaGreatDoor
open Go.ChangeShapes Go.WideShapes Go.ChangeAt Go.RowKit Go.Joins
set_option linter.unusedVariables false

/-! A part of a block, as one value. -/

def isAggD : TypeDesc → Bool
  | .struct _ => true
  | .array _ _ => true
  | _ => false
set_option maxRecDepth 100000 in
theorem run_loadVar_arr {P : Program} (w : World) (g off n N : Nat) (F : Nat → Value) (t ty : TypeId) (fr : Nat × Nat) (d : TypeDesc) (hg : w.heap[g]? = some (.cells (rowArr N F) t fr)) (hn : off + n ≤ N)
    (hu : P.underlying ty = some d) (hd : isAggD d = true) (hi : (P.info? ty).map (·.size) = some n) :
    (loadVar ty ⟨g, off, none⟩).run P w = .ok (.agg (rowArr n fun j => F (off + j))) w := by
  have hlen : (rowArr n fun j => F (off + j)).toList.length = n := by simp [rowArr]
  have hl : (loadCells ⟨g, off, none⟩ (rowArr n fun j => F (off + j)).toList.length).run P w = .ok (rowArr n fun j => F (off + j)).toList.toArray w :=
    run_loadCells_list (P := P) w ⟨g, off, none⟩ (rowArr n fun j => F (off + j)).toList (fun j v hv => by
      have hadd : (⟨g, off, none⟩ : Addr).add j = ⟨g, off + j, none⟩ := by unfold Addr.add; split <;> simp_all
      have hj : j < n := by
        have := (List.getElem?_eq_some_iff.1 hv).1
        omega
      rw [hadd, cell_of_row w g (off + j) _ t fr hg]
      simp only [rowArr] at hv ⊢
      simp [hj] at hv
      simp [show off + j < N by omega, hv])
  rw [hlen] at hl
  cases hq : P.info? ty with
  | none => simp [hq] at hi
  | some i =>
    have hs : i.size = n := by simpa [hq] using hi
    have hagg : (isAgg ty).run P w = .ok true w := by
      unfold isAgg
      rw [Sem.run_bind, run_underlying hu w]
      cases d <;> simp_all [isAggD]
    simp only [Array.toArray_toList] at hl
    simp [loadVar, Sem.run_bind, hagg, sizeOf, typeInfo, hq, hs, hl]
set_option maxRecDepth 100000 in
theorem wpList_load_arr {ops : Array Oper} {rest : List Oper} {o : Oper} {a : Act} {w : World} {Q : Exit → Act → World → Prop} (hgd : o.guard = none) (ty : TypeId) (x : Operand) (ho : o.op = .load ty x)
    (g off n N : Nat) (F : Nat → Value) (hx : a.eval x = .pointer (some ⟨g, off, none⟩)) (t : TypeId) (fr : Nat × Nat) (d : TypeDesc) (hg : w.heap[g]? = some (.cells (rowArr N F) t fr)) (hn : off + n ≤ N)
    (hu : Tryz.prog.underlying ty = some d) (hd : isAggD d = true) (hi : (Tryz.prog.info? ty).map (·.size) = some n)
    (h : wpList Tryz.prog ops Q rest (a.put o.dst (.agg (rowArr n fun j => F (off + j)))) w) : wpList Tryz.prog ops Q (o :: rest) a w :=
  wpList_plain hgd fun K hK => by
    unfold Oper.wp execOp
    simp only [ho, hx, Instr.loadAt, Instr.sureAddr, Sem.run_bind, Sem.run_pure, Result.andThen_ok, run_loadVar_arr (P := Tryz.prog) w g off n N F t ty fr d hg hn hu hd hi]
    exact hK _ _ h
set_option maxRecDepth 100000 in
/-- The same where the order is open: one value in every world of a class. -/
theorem quiet_load_arr {C : World → Prop} {o : Oper} {a : Act} {K : Act → Prop} (ty : TypeId) (x : Operand) (ho : o.op = .load ty x)
    (g off n N : Nat) (F : Nat → Value) (hx : a.eval x = .pointer (some ⟨g, off, none⟩)) (t : TypeId) (fr : Nat × Nat) (d : TypeDesc) (hg : ∀ w, C w → w.heap[g]? = some (.cells (rowArr N F) t fr)) (hn : off + n ≤ N)
    (hu : Tryz.prog.underlying ty = some d) (hd : isAggD d = true) (hi : (Tryz.prog.info? ty).map (·.size) = some n)
    (h : K (a.put o.dst (.agg (rowArr n fun j => F (off + j))))) : o.quiet Tryz.prog a C K := by
  refine ⟨_, fun w hw => ?_, h⟩
  unfold Oper.quietAt execOp
  simp only [ho, hx, Instr.loadAt, Instr.sureAddr, Sem.run_bind, Sem.run_pure, Result.andThen_ok, run_loadVar_arr (P := Tryz.prog) w g off n N F t ty fr d (hg w hw) hn hu hd hi]
  exact ⟨rfl, rfl⟩

/-! Structs compared, field by field. -/

def eqF (d : Nat) (xs ys : Array Value) : List (String × TypeId × Nat) → Sem Bool
  | [] => pure true
  | f :: fs =>
    if f.1 ≠ "_" then do
      let a ← part f.2.1 xs f.2.2
      let b ← part f.2.1 ys f.2.2
      let r ← Op.equalIn d f.2.1 a b
      if (!r) = true then pure false else eqF d xs ys fs
    else eqF d xs ys fs
theorem eqF_of (d : Nat) (xs ys : Array Value) : ∀ fs : List Field, Op.eqFields d xs ys fs = eqF d xs ys (fs.map fun f => (f.name, f.type, f.offset))
  | [] => rfl
  | f :: fs => by
    rw [List.map_cons, Op.eqFields, eqF, eqF_of d xs ys fs]
theorem eqF_cons {P : Program} {d : Nat} {xs ys : Array Value} {nm : String} {ty : TypeId} {off : Nat} {fs : List (String × TypeId × Nat)} {w : World} {a b : Value} {r s : Bool} (hn : nm ≠ "_")
    (ha : (part ty xs off).run P w = .ok a w) (hb : (part ty ys off).run P w = .ok b w) (he : (Op.equalIn d ty a b).run P w = .ok r w) (hs : (eqF d xs ys fs).run P w = .ok s w) :
    (eqF d xs ys ((nm, ty, off) :: fs)).run P w = .ok (r && s) w := by
  unfold eqF
  rw [if_pos hn]
  simp only [Sem.run_bind, ha, hb, he, Result.andThen_ok]
  cases r
  · simp
  · simp [hs]
theorem part_one {P : Program} {ty : TypeId} {N off : Nat} {F : Nat → Value} {w : World} (h : (isAgg ty).run P w = .ok false w) (ho : off < N) : (part ty (rowArr N F) off).run P w = .ok (F off) w := by
  have e : (rowArr N F)[off]? = some (F off) := by simp [rowArr, ho]
  simp only [part, Sem.run_bind, h, Result.andThen_ok, e]
  rfl
theorem part_arr {P : Program} {ty : TypeId} {N off n : Nat} {F : Nat → Value} {w : World} (h : (isAgg ty).run P w = .ok true w) (hs : (sizeOf ty).run P w = .ok n w) (ho : off + n ≤ N) : (part ty (rowArr N F) off).run P w = .ok (.agg (rowArr n fun j => F (off + j))) w := by
  have e : (rowArr N F).extract off (off + n) = rowArr n fun j => F (off + j) := by
    apply Array.ext_getElem?
    intro i
    by_cases hi : i < n
    · simp [rowArr, hi, show off + i < N by omega]
    · simp [rowArr, hi]
      omega
  simp [part, Sem.run_bind, h, hs, Result.andThen_ok, e]

/-! Arrays of bytes compared. -/

theorem row_cells (l : List Nat) (n : Nat) (hl : l.length = n) (hb : IsByte l) : rowArr n (vOf l) = ((l.map fun k => UInt8.ofNat k).map Extern.Stop.cell).toArray := by
  apply Array.ext_getElem?
  intro i
  by_cases hi : i < n
  · have hi2 : i < l.length := by omega
    have := hb l[i] (List.getElem_mem hi2)
    simp [rowArr, vOf, byteV, List.getD, hi, hi2, Extern.Stop.cell]
    omega
  · have hi2 : l.length ≤ i := by omega
    simp [rowArr, hi, hi2]
theorem bytes_beq {l m : List Nat} (hl : IsByte l) (hm : IsByte m) : ((l.map fun k => UInt8.ofNat k) == (m.map fun k => UInt8.ofNat k)) = decide (l = m) := by
  have key : ∀ (l m : List Nat), IsByte l → IsByte m → (l.map fun k => UInt8.ofNat k) = (m.map fun k => UInt8.ofNat k) → l = m := by
    intro l
    induction l with
    | nil => intro m _ _ h; cases m with
      | nil => rfl
      | cons y m => simp at h
    | cons x l ih =>
      intro m hl hm h
      cases m with
      | nil => simp at h
      | cons y m =>
        simp only [List.map_cons, List.cons.injEq] at h
        have a1 := hl x (by simp)
        have a2 := hm y (by simp)
        have e : x = y := by
          have := congrArg UInt8.toNat h.1
          simp at this
          omega
        rw [e, ih m (fun z hz => hl z (by simp [hz])) (fun z hz => hm z (by simp [hz])) h.2]
  by_cases e : l = m
  · subst e; simp
  · rw [decide_eq_false e, beq_eq_false_iff_ne]
    exact fun h => e (key l m hl hm h)
theorem str_beq {l m : List Nat} (hl : IsByte l) (hm : IsByte m) : ((strOf l).toList == (strOf m).toList) = decide (l = m) := by
  rw [← bytes_beq hl hm]
  congr 1
  all_goals
    unfold strOf
    rw [ByteArray.toList_eq, strOfNums_data, List.map_map]
    rfl
theorem eq_arr {n : Nat} {t : TypeId} (ht : Tryz.prog.underlying t = some (.array n 5)) {l m : List Nat} (hl : IsByte l) (hm : IsByte m) (hln : l.length = n) (hmn : m.length = n) (d : Nat) (w : World) :
    (Op.equalIn (d + 2) t (.agg (rowArr n (vOf l))) (.agg (rowArr n (vOf m)))).run Tryz.prog w = .ok (decide (l = m)) w := by
  rw [row_cells l n hln hl, row_cells m n hmn hm, run_equalIn_bytes w d t 5 n ht Tryz.underlying5 (fun w => Tryz.sizeOf5 w) _ _ (by simpa using hln) (by simpa using hmn), bytes_beq hl hm]

/-! Files' entries compared. -/

theorem fields_file : (Tryz.prog.fieldsOf 58).toList.map (fun f => (f.name, f.type, f.offset)) = [("Name", 9, 0), ("Size", 3, 1), ("Digest", 55, 2), ("First", 3, 34)] := by kernel_rfl
theorem und_file : Tryz.prog.underlying 58 = some (.struct (Tryz.prog.fieldsOf 58)) := by kernel_rfl
theorem held_file : Tryz.prog.stoodInHeld 58 = false := by kernel_rfl
theorem fil_arr (f : Fil) : (rowArr 32 fun j => filV f (2 + j)) = rowArr 32 (vOf f.dg) := by
  unfold rowArr
  congr 1
theorem fil_eq (f g : Fil) : (f = g) ↔ f.name = g.name ∧ f.size = g.size ∧ f.dg = g.dg ∧ f.first = g.first := by
  cases f; cases g; simp
instance fil_dec : DecidableEq Fil := fun f g => decidable_of_iff _ (fil_eq f g).symm
set_option maxRecDepth 100000 in
theorem eq_file {f g : Fil} (hf : FilOk f) (hg : FilOk g) (d : Nat) (w : World) : (Op.equalIn (d + 3) 58 (.agg (rowArr 35 (filV f))) (.agg (rowArr 35 (filV g)))).run Tryz.prog w = .ok (decide (f = g)) w := by
  rw [run_equalIn_struct w (d + 2) 58 _ _ und_file held_file, eqF_of, fields_file]
  have k1 := part_arr (P := Tryz.prog) (ty := 55) (N := 35) (off := 2) (n := 32) (F := filV f) (w := w) (Tryz.isAgg55 w) (Tryz.sizeOf55 w) (by omega)
  have k2 := part_arr (P := Tryz.prog) (ty := 55) (N := 35) (off := 2) (n := 32) (F := filV g) (w := w) (Tryz.isAgg55 w) (Tryz.sizeOf55 w) (by omega)
  rw [fil_arr] at k1 k2
  have e := eqF_cons (P := Tryz.prog) (d := d + 2) (nm := "Name") (ty := 9) (off := 0) (w := w) (by decide) (part_one (N := 35) (F := filV f) (Tryz.isAgg9 w) (by omega)) (part_one (N := 35) (F := filV g) (Tryz.isAgg9 w) (by omega)) (run_equalIn_string w (d + 1) 9 (strOf f.name) (strOf g.name) Tryz.underlying9)
    (eqF_cons (nm := "Size") (ty := 3) (off := 1) (by decide) (part_one (N := 35) (F := filV f) (Tryz.isAgg3 w) (by omega)) (part_one (N := 35) (F := filV g) (Tryz.isAgg3 w) (by omega)) (run_equalIn_int w (d + 1) 3 .i64 .i64 f.size g.size Tryz.underlying3)
    (eqF_cons (nm := "Digest") (ty := 55) (off := 2) (by decide) k1 k2 (eq_arr Tryz.underlying55 hf.dgb hg.dgb hf.dgl hg.dgl d w)
    (eqF_cons (nm := "First") (ty := 3) (off := 34) (by decide) (part_one (N := 35) (F := filV f) (Tryz.isAgg3 w) (by omega)) (part_one (N := 35) (F := filV g) (Tryz.isAgg3 w) (by omega)) (run_equalIn_int w (d + 1) 3 .i64 .i64 f.first g.first Tryz.underlying3)
    (show (eqF (d + 2) _ _ []).run Tryz.prog w = .ok true w from rfl))))
  rw [e, str_beq hf.byte hg.byte]
  congr 1
  rw [Bool.eq_iff_iff]
  simp [fil_eq]
end Go.Proofs.YtcopjbapglndgaaGreatDoor
end

section
namespace Go.Proofs.YtcopjbapglndgaaGreatDoor
open Go.ChangeShapes Go.WideShapes Go.ChangeAt Go.RowKit Go.Joins
set_option linter.unusedVariables false

theorem part_get {cs l : List Value} {off n j : Nat} (h : (cs.drop off).take n = l) (hj : j < n) : cs[off + j]? = l[j]? := by
  rw [← h, List.getElem?_take, if_pos hj, List.getElem?_drop]
theorem rowArr_get (N : Nat) (F : Nat → Value) (j : Nat) : (rowArr N F).toList[j]? = if j < N then some (F j) else none := by
  simp [rowArr]
  split <;> simp_all
/-- A string is its bytes. -/
theorem str_of (s : ByteArray) : ∃ l : List Nat, s = strOf l ∧ IsByte l ∧ l.length = s.size := by
  refine ⟨s.data.toList.map fun x => x.toNat, ?_, fun n hn => ?_, by rw [List.length_map, Array.length_toList]; rfl⟩
  · unfold strOf strOfNums
    obtain ⟨⟨d⟩⟩ := s
    simp [Function.comp_def]
  · obtain ⟨x, _, rfl⟩ := List.mem_map.1 hn
    exact x.toNat_lt

section
variable {H : Type} {enc : TypeId × Value → H} {w : World} {base : Nat} {spare : Nat → Bool} {held : Bool}

theorem cells_u8 : Tryz.prog.cellsOf 5 = 1 := by kernel_rfl
/-- An array of bytes. -/
theorem arr_in {n fuel : Nat} {t : TypeId} (ht : Tryz.prog.underlying t = some (.array n 5)) (hc : Tryz.prog.cellsOf t = n) {cs : List Value} {x : DataW H × List MemPlace} (h : DataW.trod enc Tryz.prog w base spare held fuel t cs = some x) :
    ∃ l : List Nat, l.length = n ∧ IsByte l ∧ cs = (rowArr n (vOf l)).toList := by
  obtain ⟨xs, m, _, hx, hlen, hxl, hel⟩ := DataW.trod_array ht h
  have key : ∀ i, i < n → ∃ k : Nat, k < 256 ∧ cs[i]? = some (.int .u8 (k : Int)) := fun i hi => by
    have h1 := hel i hi
    rw [cells_u8, Nat.mul_one, List.getElem?_eq_getElem (by omega)] at h1
    obtain ⟨z, e, _, wz⟩ := DataW.trod_int Tryz.underlying5 h1
    have hz : 0 ≤ z ∧ z ≤ 255 := by simpa [Lit.wf, IntKind.min, IntKind.max, IntKind.signed, IntKind.bits] using wz
    have := part_get (j := 0) e (by omega)
    refine ⟨z.toNat, by omega, ?_⟩
    rw [Nat.add_zero] at this
    rw [this]
    simp
    omega
  obtain ⟨f, hf⟩ := Go.Deep.choose_lt (α := Nat) (p := fun i k => k < 256 ∧ cs[i]? = some (.int .u8 (k : Int))) (n := n) key
  refine ⟨(List.range n).map f, by simp, fun k hk => ?_, ?_⟩
  · obtain ⟨i, hi, rfl⟩ := List.mem_map.1 hk
    exact (hf i (List.mem_range.1 hi)).1
  · apply List.ext_getElem?
    intro i
    rw [rowArr_get]
    by_cases hi : i < n
    · rw [if_pos hi, (hf i hi).2]
      simp [vOf, byteV, List.getD, hi]
    · rw [if_neg hi, List.getElem?_eq_none (by rw [hlen, hc]; omega)]

theorem cells_fil : Tryz.prog.cellsOf 58 = 35 := by kernel_rfl
theorem cells_32 : Tryz.prog.cellsOf 55 = 32 := by kernel_rfl
theorem i64R_of {z : Int} (wz : (Lit.int .i64 z).wf = true) : i64R z := by
  have hz : -9223372036854775808 ≤ z ∧ z ≤ 9223372036854775807 := by simpa [Lit.wf, IntKind.min, IntKind.max, IntKind.signed, IntKind.bits] using wz
  exact hz
set_option maxRecDepth 100000 in
/-- A file's entry. -/
theorem fil_in {fuel : Nat} {cs : List Value} {x : DataW H × List MemPlace} (h : DataW.trod enc Tryz.prog w base spare held fuel 58 cs = some x) :
    ∃ f, FilOk f ∧ cs = (rowArr 35 (filV f)).toList := by
  obtain ⟨xs, n, _, hy, hlen, hxl, hf⟩ := DataW.trod_struct Tryz.underlying58 h
  have hlen2 : cs.length = 35 := hlen.trans cells_fil
  match xs, hxl with
  | [y0, y1, y2, y3], _ =>
    have f0 : DataW.trod enc Tryz.prog w base spare held n 9 ((cs.drop 0).take 1) = some y0 := hf 0 _ rfl
    have f1 : DataW.trod enc Tryz.prog w base spare held n 3 ((cs.drop 1).take 1) = some y1 := hf 1 _ rfl
    have f2 : DataW.trod enc Tryz.prog w base spare held n 55 ((cs.drop 2).take 32) = some y2 := hf 2 _ rfl
    have f3 : DataW.trod enc Tryz.prog w base spare held n 3 ((cs.drop 34).take 1) = some y3 := hf 3 _ rfl
    obtain ⟨s, e0, _, hsl⟩ := DataW.trod_string Tryz.underlying9 f0
    obtain ⟨z1, e1, _, wz1⟩ := DataW.trod_int Tryz.underlying3 f1
    obtain ⟨dg, hd1, hd2, e2⟩ := arr_in Tryz.underlying55 cells_32 f2
    obtain ⟨z3, e3, _, wz3⟩ := DataW.trod_int Tryz.underlying3 f3
    obtain ⟨l, rfl, hlb, hll⟩ := str_of s
    refine ⟨⟨l, z1, dg, z3⟩, ⟨hlb, i64R_of wz1, i64R_of wz3, hd1, hd2, by rw [hll]; unfold maxLen at hsl; omega⟩, ?_⟩
    apply List.ext_getElem?
    intro i
    rw [rowArr_get]
    by_cases hi : i < 35
    · rw [if_pos hi]
      unfold filV
      by_cases i0 : i = 0
      · subst i0
        rw [if_pos rfl]
        exact part_get (j := 0) e0 (by omega)
      · by_cases i1 : i = 1
        · subst i1
          rw [if_neg (by omega), if_pos rfl]
          exact part_get (j := 0) e1 (by omega)
        · by_cases i2 : i < 34
          · rw [if_neg i0, if_neg i1, if_pos i2]
            have := part_get (j := i - 2) e2 (by omega)
            rw [rowArr_get, if_pos (by omega), show 2 + (i - 2) = i by omega] at this
            exact this
          · have e : i = 34 := by omega
            subst e
            rw [if_neg i0, if_neg i1, if_neg i2]
            exact part_get (j := 0) e3 (by omega)
    · rw [if_neg hi, List.getElem?_eq_none (by omega)]

/-! What is known of slices. -/

theorem cells_sm : Tryz.prog.cellsOf 64 = 34 := by kernel_rfl
def smV (x : Sm) (j : Nat) : Value := if j = 0 then .int .i64 x.n else if j = 1 then .int .u32 (x.crc : Int) else vOf x.dg (j - 2)
set_option maxRecDepth 100000 in
theorem sm_in {fuel : Nat} {cs : List Value} {x : DataW H × List MemPlace} (h : DataW.trod enc Tryz.prog w base spare held fuel 64 cs = some x) :
    ∃ y, SmOk y ∧ cs = (rowArr 34 (smV y)).toList := by
  obtain ⟨xs, n, _, hy, hlen, hxl, hf⟩ := DataW.trod_struct Tryz.underlying64 h
  have hlen2 : cs.length = 34 := hlen.trans cells_sm
  match xs, hxl with
  | [y0, y1, y2], _ =>
    have f0 : DataW.trod enc Tryz.prog w base spare held n 3 ((cs.drop 0).take 1) = some y0 := hf 0 _ rfl
    have f1 : DataW.trod enc Tryz.prog w base spare held n 44 ((cs.drop 1).take 1) = some y1 := hf 1 _ rfl
    have f2 : DataW.trod enc Tryz.prog w base spare held n 55 ((cs.drop 2).take 32) = some y2 := hf 2 _ rfl
    obtain ⟨z0, e0, _, wz0⟩ := DataW.trod_int Tryz.underlying3 f0
    obtain ⟨z1, e1, _, wz1⟩ := DataW.trod_int Tryz.underlying44 f1
    obtain ⟨dg, hd1, hd2, e2⟩ := arr_in Tryz.underlying55 cells_32 f2
    have hz1 : 0 ≤ z1 ∧ z1 ≤ 4294967295 := by simpa [Lit.wf, IntKind.min, IntKind.max, IntKind.signed, IntKind.bits] using wz1
    obtain ⟨k, rfl⟩ : ∃ k : Nat, z1 = (k : Int) := ⟨z1.toNat, by omega⟩
    refine ⟨⟨z0, k, dg⟩, ⟨i64R_of wz0, by show k < 4294967296; omega, hd1, hd2⟩, ?_⟩
    apply List.ext_getElem?
    intro i
    rw [rowArr_get]
    by_cases hi : i < 34
    · rw [if_pos hi]
      unfold smV
      by_cases i0 : i = 0
      · subst i0
        rw [if_pos rfl]
        exact part_get (j := 0) e0 (by omega)
      · by_cases i1 : i = 1
        · subst i1
          rw [if_neg (by omega), if_pos rfl]
          exact part_get (j := 0) e1 (by omega)
        · rw [if_neg i0, if_neg i1]
          have := part_get (j := i - 2) e2 (by omega)
          rw [rowArr_get, if_pos (by omega), show 2 + (i - 2) = i by omega] at this
          exact this
    · rw [if_neg hi, List.getElem?_eq_none (by omega)]
set_option maxRecDepth 100000 in
theorem sms_in {fuel : Nat} {c : Value} {x : DataW H × List MemPlace} (h : DataW.trod enc Tryz.prog w base spare held fuel 27 [c] = some x) :
    ∃ a cap l, c = .slice a l.length cap ∧ Sms w a cap l := by
  rcases DataW.trod_slice Tryz.underlying27 h with ⟨hcs, hx⟩ | ⟨a, len, cap, elems, rest, n, _, hcs, hx, hb, hl, hm, hlen, hel, _, _⟩
  · simp only [List.cons.injEq, and_true] at hcs
    exact ⟨none, 0, [], hcs, ⟨fun x hx => (by cases hx), by simp, by unfold maxLen; omega, .inl rfl⟩⟩
  · simp only [List.cons.injEq, and_true] at hcs
    obtain ⟨f, hf⟩ := Go.Deep.choose_lt (α := Sm) (p := fun i v => SmOk v ∧ ∀ j, j < 34 → w.cell? ((a.add (i * 34)).add j) = some (smV v j)) (n := len) fun i hi => by
      have h1 := hel i hi
      rw [cells_sm] at h1
      have hie : i < elems.length := by omega
      rw [List.getElem?_eq_getElem hie] at h1
      obtain ⟨cs, hcs1, hcs2⟩ := Option.bind_eq_some_iff.1 h1
      obtain ⟨y, hy, rfl⟩ := sm_in hcs2
      obtain ⟨_, _, hc⟩ := World.cells?_some hcs1
      refine ⟨y, hy, fun j hj => ?_⟩
      rw [hc j (by omega)]
      have := rowArr_get 34 (smV y) j
      rw [if_pos hj] at this
      exact this
    have hll : ((List.range len).map f).length = len := by simp
    refine ⟨some a, cap, (List.range len).map f, by rw [hll]; exact hcs, ⟨fun x hx => ?_, by rw [hll]; exact hl, hm, ?_⟩⟩
    · obtain ⟨i, hi, rfl⟩ := List.mem_map.1 hx
      exact (hf i (List.mem_range.1 hi)).1
    · by_cases h0 : len = 0
      · exact .inl (List.length_eq_zero_iff.1 (by rw [hll]; exact h0))
      · obtain ⟨b, off, spot⟩ := a
        have hc0 := (hf 0 (by omega)).2 0 (by omega)
        have hc0' : w.cell? (⟨b, off, spot⟩ : Addr) = some (smV (f 0) 0) := by simpa [Addr.add] using hc0
        have hspot : spot = none := World.cell?_spot hc0'
        subst hspot
        have hadd : ∀ r j, ((⟨b, off, none⟩ : Addr).add r).add j = ⟨b, off + r + j, none⟩ := fun r j => by
          by_cases r0 : r = 0 <;> by_cases j0 : j = 0
          · subst r0; subst j0; simp [Addr.add]
          · subst r0; simp [Addr.add, j0]
          · subst j0; simp [Addr.add, r0]
          · simp [Addr.add, r0, j0]
        refine .inr ⟨b, off, rfl, World.block_lt_of_cell? w _ hc0', fun i hi => ?_⟩
        have hi2 : i < len := by rw [hll] at hi; exact hi
        have hgi : ((List.range len).map f)[i] = f i := by simp
        rw [hgi]
        obtain ⟨q, hq⟩ := hf i hi2
        have hq' : ∀ j, j < 34 → w.cell? ⟨b, off + i * 34 + j, none⟩ = some (smV (f i) j) := fun j hj => by rw [← hadd]; exact hq j hj
        refine ⟨by simpa [smV] using hq' 0 (by omega), by simpa [smV] using hq' 1 (by omega), fun j hj => ?_⟩
        have hj32 : j < 32 := by rw [q.2.2.1] at hj; exact hj
        have := hq' (2 + j) (by omega)
        unfold smV at this
        rw [if_neg (by omega), if_neg (by omega), show 2 + j - 2 = j by omega, vOf_eq _ _ hj] at this
        rw [show off + i * 34 + 2 + j = off + i * 34 + (2 + j) by omega]
        exact this

/-! A packet. -/

/-- Its 51 cells. -/
def pkV (p : Pk) (sa : Option Addr) (sc : Nat) (da : Option Addr) (dc : Nat) (j : Nat) : Value :=
  if j < 8 then vOf p.set j else if j = 8 then .int .i64 p.kind else if j = 9 then .int .i64 p.slice else if j = 10 then .int .i64 p.files else if j = 11 then .int .i64 p.slices else if j = 12 then .int .i64 p.index else
  if j < 48 then filV p.file (j - 13) else if j = 48 then .slice sa p.sums.length sc else if j = 49 then .int .u32 (p.id : Int) else .slice da p.data.length dc
theorem pkV_set (p : Pk) (sa : Option Addr) (sc : Nat) (da : Option Addr) (dc : Nat) {j : Nat} (h : j < 8) : pkV p sa sc da dc j = vOf p.set j := by
  unfold pkV
  rw [if_pos h]
theorem pkV_fil (p : Pk) (sa : Option Addr) (sc : Nat) (da : Option Addr) (dc : Nat) {j : Nat} (h : 13 ≤ j) (h2 : j < 48) : pkV p sa sc da dc j = filV p.file (j - 13) := by
  unfold pkV
  rw [if_neg (by omega), if_neg (by omega), if_neg (by omega), if_neg (by omega), if_neg (by omega), if_neg (by omega), if_pos h2]
/-- What a packet's slices lead to. -/
structure PkAt (w : World) (p : Pk) (sa : Option Addr) (sc : Nat) (da : Option Addr) (dc : Nat) : Prop where
  okk : PkIn p
  sums : Sms w sa sc p.sums
  data : Sl w da dc p.data
theorem PkAt.below {w w' : World} {p : Pk} {sa : Option Addr} {sc : Nat} {da : Option Addr} {dc : Nat} (h : PkAt w p sa sc da dc) (k : Below w.heap.size w w') : PkAt w' p sa sc da dc := ⟨h.okk, h.sums.below k, h.data.below k⟩
theorem cells_pk : Tryz.prog.cellsOf 75 = 51 := by kernel_rfl
theorem cells_8 : Tryz.prog.cellsOf 40 = 8 := by kernel_rfl
set_option maxRecDepth 100000 in
set_option maxHeartbeats 1000000 in
theorem pk_in {fuel : Nat} {cs : List Value} {x : DataW H × List MemPlace} (h : DataW.trod enc Tryz.prog w base spare held fuel 75 cs = some x) :
    ∃ p sa sc da dc, cs = (rowArr 51 (pkV p sa sc da dc)).toList ∧ PkAt w p sa sc da dc := by
  obtain ⟨xs, n, _, hy, hlen, hxl, hf⟩ := DataW.trod_struct Tryz.underlying75 h
  have hlen2 : cs.length = 51 := hlen.trans cells_pk
  match xs, hxl with
  | [y0, y1, y2, y3, y4, y5, y6, y7, y8, y9], _ =>
    have f0 : DataW.trod enc Tryz.prog w base spare held n 40 ((cs.drop 0).take 8) = some y0 := hf 0 _ rfl
    have f1 : DataW.trod enc Tryz.prog w base spare held n 3 ((cs.drop 8).take 1) = some y1 := hf 1 _ rfl
    have f2 : DataW.trod enc Tryz.prog w base spare held n 3 ((cs.drop 9).take 1) = some y2 := hf 2 _ rfl
    have f3 : DataW.trod enc Tryz.prog w base spare held n 3 ((cs.drop 10).take 1) = some y3 := hf 3 _ rfl
    have f4 : DataW.trod enc Tryz.prog w base spare held n 3 ((cs.drop 11).take 1) = some y4 := hf 4 _ rfl
    have f5 : DataW.trod enc Tryz.prog w base spare held n 3 ((cs.drop 12).take 1) = some y5 := hf 5 _ rfl
    have f6 : DataW.trod enc Tryz.prog w base spare held n 58 ((cs.drop 13).take 35) = some y6 := hf 6 _ rfl
    have f7 : DataW.trod enc Tryz.prog w base spare held n 27 ((cs.drop 48).take 1) = some y7 := hf 7 _ rfl
    have f8 : DataW.trod enc Tryz.prog w base spare held n 44 ((cs.drop 49).take 1) = some y8 := hf 8 _ rfl
    have f9 : DataW.trod enc Tryz.prog w base spare held n 35 ((cs.drop 50).take 1) = some y9 := hf 9 _ rfl
    have one : ∀ off, off < 51 → ∃ c, (cs.drop off).take 1 = [c] := fun off ho => ⟨cs[off], by
      rw [List.drop_eq_getElem_cons (by omega)]; rfl⟩
    obtain ⟨set, hs8, hsb, e0⟩ := arr_in Tryz.underlying40 cells_8 f0
    obtain ⟨z1, e1, _, wz1⟩ := DataW.trod_int Tryz.underlying3 f1
    obtain ⟨z2, e2, _, wz2⟩ := DataW.trod_int Tryz.underlying3 f2
    obtain ⟨z3, e3, _, wz3⟩ := DataW.trod_int Tryz.underlying3 f3
    obtain ⟨z4, e4, _, wz4⟩ := DataW.trod_int Tryz.underlying3 f4
    obtain ⟨z5, e5, _, wz5⟩ := DataW.trod_int Tryz.underlying3 f5
    obtain ⟨fl, hfl, e6⟩ := fil_in f6
    obtain ⟨c7, e7⟩ := one 48 (by omega)
    rw [e7] at f7
    obtain ⟨sa, sc, sl, rfl, hsm⟩ := sms_in f7
    obtain ⟨z8, e8, _, wz8⟩ := DataW.trod_int Tryz.underlying44 f8
    obtain ⟨c9, e9⟩ := one 50 (by omega)
    rw [e9] at f9
    obtain ⟨da, dc, dl, rfl, hdl⟩ := bytes_in f9
    have hz8 : 0 ≤ z8 ∧ z8 ≤ 4294967295 := by simpa [Lit.wf, IntKind.min, IntKind.max, IntKind.signed, IntKind.bits] using wz8
    obtain ⟨k, rfl⟩ : ∃ k : Nat, z8 = (k : Int) := ⟨z8.toNat, by omega⟩
    refine ⟨⟨set, z1, z2, z3, z4, z5, fl, sl, k, dl⟩, sa, sc, da, dc, ?_, ⟨⟨hs8, hsb, i64R_of wz1, i64R_of wz2, i64R_of wz3, i64R_of wz4, i64R_of wz5, hfl, hsm.rng, by show k < 4294967296; omega, hdl.byte⟩, hsm, hdl⟩⟩
    apply List.ext_getElem?
    intro i
    rw [rowArr_get]
    by_cases hi : i < 51
    · rw [if_pos hi]
      by_cases j1 : i < 8
      · rw [pkV_set _ _ _ _ _ j1]
        have := part_get (j := i) e0 (by omega)
        rw [rowArr_get, if_pos (by omega), Nat.zero_add] at this
        exact this
      · by_cases j2 : 13 ≤ i ∧ i < 48
        · rw [pkV_fil _ _ _ _ _ j2.1 j2.2]
          have := part_get (j := i - 13) e6 (by omega)
          rw [rowArr_get, if_pos (by omega), show 13 + (i - 13) = i by omega] at this
          exact this
        · have hc : i = 8 ∨ i = 9 ∨ i = 10 ∨ i = 11 ∨ i = 12 ∨ i = 48 ∨ i = 49 ∨ i = 50 := by omega
          clear j1 j2 hi
          rcases hc with rfl | rfl | rfl | rfl | rfl | rfl | rfl | rfl
          · exact part_get (j := 0) e1 (by omega)
          · exact part_get (j := 0) e2 (by omega)
          · exact part_get (j := 0) e3 (by omega)
          · exact part_get (j := 0) e4 (by omega)
          · exact part_get (j := 0) e5 (by omega)
          · exact part_get (j := 0) e7 (by omega)
          · exact part_get (j := 0) e8 (by omega)
          · exact part_get (j := 0) e9 (by omega)
    · rw [if_neg hi, List.getElem?_eq_none (by omega)]
set_option maxRecDepth 100000 in
/-- A packet that is handed in. -/
theorem pk_arg {r : Reach} {b0 : Nat} {v : Value} {d : DataW H} {q : List MemPlace} (hv : Value.okWide Tryz.prog w r b0 75 v) (h : DataW.Trod enc Tryz.prog w base spare held 75 v d q) :
    ∃ p sa sc da dc, v = .agg (rowArr 51 (pkV p sa sc da dc)) ∧ PkAt w p sa sc da dc := by
  obtain ⟨cs, rfl, hsz⟩ := okWide_struct Tryz.underlying75 hv
  obtain ⟨fuel, hf⟩ := h
  obtain ⟨p, sa, sc, da, dc, e, hp⟩ := pk_in hf
  have e2 : cs = rowArr 51 (pkV p sa sc da dc) := Array.ext' e
  exact ⟨p, sa, sc, da, dc, by rw [e2], hp⟩
end
end Go.Proofs.YtcopjbapglndgaaGreatDoor
end

section
namespace Go.Proofs.YtcopjbapglndgaaGreatDoor
open Go.ChangeShapes Go.WideShapes Go.ChangeAt Go.RowKit Go.Joins
set_option linter.unusedVariables false

/-! Cells loaded as one value. -/

set_option maxRecDepth 100000 in
theorem run_loadVar_cells {P : Program} (w : World) (g off n : Nat) (F : Nat → Value) (ty : TypeId) (d : TypeDesc) (hg : ∀ j, j < n → w.cell? ⟨g, off + j, none⟩ = some (F j))
    (hu : P.underlying ty = some d) (hd : isAggD d = true) (hi : (P.info? ty).map (·.size) = some n) :
    (loadVar ty ⟨g, off, none⟩).run P w = .ok (.agg (rowArr n F)) w := by
  have hlen : (rowArr n F).toList.length = n := by simp [rowArr]
  have hl : (loadCells ⟨g, off, none⟩ (rowArr n F).toList.length).run P w = .ok (rowArr n F).toList.toArray w :=
    run_loadCells_list (P := P) w ⟨g, off, none⟩ (rowArr n F).toList (fun j v hv => by
      have hadd : (⟨g, off, none⟩ : Addr).add j = ⟨g, off + j, none⟩ := by unfold Addr.add; split <;> simp_all
      have hj : j < n := by
        have := (List.getElem?_eq_some_iff.1 hv).1
        omega
      rw [rowArr_get, if_pos hj] at hv
      rw [hadd, hg j hj]
      exact hv)
  rw [hlen] at hl
  cases hq : P.info? ty with
  | none => simp [hq] at hi
  | some i =>
    have hs : i.size = n := by simpa [hq] using hi
    have hagg : (isAgg ty).run P w = .ok true w := by
      unfold isAgg
      rw [Sem.run_bind, run_underlying hu w]
      cases d <;> simp_all [isAggD]
    simp only [Array.toArray_toList] at hl
    simp [loadVar, Sem.run_bind, hagg, sizeOf, typeInfo, hq, hs, hl]
set_option maxRecDepth 100000 in
/-- Loaded where a guard lets it. -/
theorem wpList_load_v {ops : Array Oper} {rest : List Oper} {o : Oper} {a : Act} {w : World} {Q : Exit → Act → World → Prop} (hw : Region.wanted o (yielded ops a.tmps) = true) (ty : TypeId) (x : Operand) (ho : o.op = .load ty x)
    (g off n : Nat) (F : Nat → Value) (V : Array Value) (hV : rowArr n F = V) (hx : a.eval x = .pointer (some ⟨g, off, none⟩)) (d : TypeDesc) (hg : ∀ j, j < n → w.cell? ⟨g, off + j, none⟩ = some (F j))
    (hu : Tryz.prog.underlying ty = some d) (hd : isAggD d = true) (hi : (Tryz.prog.info? ty).map (·.size) = some n)
    (h : wpList Tryz.prog ops Q rest (a.put o.dst (.agg V)) w) : wpList Tryz.prog ops Q (o :: rest) a w :=
  wpList_step fun K hK => by
    rw [if_pos hw]
    subst hV
    unfold Oper.wp execOp
    simp only [ho, hx, Instr.loadAt, Instr.sureAddr, Sem.run_bind, Sem.run_pure, Result.andThen_ok, run_loadVar_cells (P := Tryz.prog) w g off n F ty d hg hu hd hi]
    exact hK _ _ h
set_option maxRecDepth 100000 in
theorem wpQuiet_load_v {ops : Array Oper} {rest : List Oper} {C : World → Prop} {o : Oper} {a : Act} {Q : Act → Prop} (hw : Region.wanted o (yielded ops a.tmps) = true) (ty : TypeId) (x : Operand) (ho : o.op = .load ty x)
    (g off n : Nat) (F : Nat → Value) (V : Array Value) (hV : rowArr n F = V) (hx : a.eval x = .pointer (some ⟨g, off, none⟩)) (d : TypeDesc) (hg : ∀ w, C w → ∀ j, j < n → w.cell? ⟨g, off + j, none⟩ = some (F j))
    (hu : Tryz.prog.underlying ty = some d) (hd : isAggD d = true) (hi : (Tryz.prog.info? ty).map (·.size) = some n)
    (h : wpQuiet Tryz.prog ops C Q rest (a.put o.dst (.agg V))) : wpQuiet Tryz.prog ops C Q (o :: rest) a :=
  wpQuiet_step fun K hK => by
    subst hV
    rw [if_pos hw]
    refine ⟨_, fun w hc => ?_, hK _ h⟩
    unfold Oper.quietAt execOp
    simp only [ho, hx, Instr.loadAt, Instr.sureAddr, Sem.run_bind, Sem.run_pure, Result.andThen_ok, run_loadVar_cells (P := Tryz.prog) w g off n F ty d (hg w hc) hu hd hi]
    exact ⟨rfl, rfl⟩

/-! A packet in a block. -/

/-- The block b is this packet's cells. -/
def PkBlk (w : World) (b : Nat) (p : Pk) (sa : Option Addr) (sc : Nat) (da : Option Addr) (dc : Nat) : Prop := w.heap[b]? = some (.cells (rowArr 51 (pkV p sa sc da dc)) 75 (0, 0))
theorem PkBlk.at {w : World} {b : Nat} {p : Pk} {sa : Option Addr} {sc : Nat} {da : Option Addr} {dc : Nat} (h : PkBlk w b p sa sc da dc) {j : Nat} (hj : j < 51) : w.cell? ⟨b, j, none⟩ = some (pkV p sa sc da dc j) := by
  rw [cell_of_block h]
  simp [rowArr, hj]
theorem PkBlk.lt {w : World} {b : Nat} {p : Pk} {sa : Option Addr} {sc : Nat} {da : Option Addr} {dc : Nat} (h : PkBlk w b p sa sc da dc) : b < w.heap.size := (Array.getElem?_eq_some_iff.1 h).1
theorem PkBlk.below {w w' : World} {b : Nat} {p : Pk} {sa : Option Addr} {sc : Nat} {da : Option Addr} {dc : Nat} (h : PkBlk w b p sa sc da dc) (k : Below w.heap.size w w') : PkBlk w' b p sa sc da dc := (k.block b h.lt).trans h
theorem PkBlk.new (w : World) (p : Pk) (sa : Option Addr) (sc : Nat) (da : Option Addr) (dc : Nat) : PkBlk (w.alloc (.cells (rowArr 51 (pkV p sa sc da dc)) 75)) w.heap.size p sa sc da dc := heap_alloc_last w _
theorem pk_file (p : Pk) (sa : Option Addr) (sc : Nat) (da : Option Addr) (dc : Nat) : (rowArr 35 fun j => pkV p sa sc da dc (13 + j)) = rowArr 35 (filV p.file) := by
  apply Array.ext'
  apply List.ext_getElem?
  intro i
  rw [rowArr_get, rowArr_get]
  by_cases hi : i < 35
  · rw [if_pos hi, if_pos hi, pkV_fil _ _ _ _ _ (by omega) (by omega), show 13 + i - 13 = i by omega]
  · rw [if_neg hi, if_neg hi]
theorem pk_set (p : Pk) (sa : Option Addr) (sc : Nat) (da : Option Addr) (dc : Nat) : (rowArr 8 fun j => pkV p sa sc da dc (0 + j)) = rowArr 8 (vOf p.set) := by
  apply Array.ext'
  apply List.ext_getElem?
  intro i
  rw [rowArr_get, rowArr_get]
  by_cases hi : i < 8
  · rw [if_pos hi, if_pos hi, pkV_set _ _ _ _ _ (by omega), Nat.zero_add]
  · rw [if_neg hi, if_neg hi]

/-! few. -/

def fewPk (p : Pk) : Bool := decide (p.file.name.length ≤ 400) && (decide (p.sums.length ≤ 100) && decide (p.data.length ≤ 400))
end Go.Proofs.YtcopjbapglndgaaGreatDoor
end

section
namespace Go.Proofs.YtcopjbapglndgaaGreatDoor
open Go.ChangeShapes Go.WideShapes Go.ChangeAt Go.RowKit Go.Joins
set_option linter.unusedVariables false

theorem fields_sm : (Tryz.prog.fieldsOf 64).toList.map (fun f => (f.name, f.type, f.offset)) = [("Size", 3, 0), ("CRC", 44, 1), ("Digest", 55, 2)] := by kernel_rfl
theorem und_sm : Tryz.prog.underlying 64 = some (.struct (Tryz.prog.fieldsOf 64)) := by kernel_rfl
theorem held_sm : Tryz.prog.stoodInHeld 64 = false := by kernel_rfl
theorem sm_arr (x : Sm) : (rowArr 32 fun j => smV x (2 + j)) = rowArr 32 (vOf x.dg) := by
  apply Array.ext'
  apply List.ext_getElem?
  intro i
  rw [rowArr_get, rowArr_get]
  by_cases hi : i < 32
  · rw [if_pos hi, if_pos hi]
    unfold smV
    rw [if_neg (by omega), if_neg (by omega), show 2 + i - 2 = i by omega]
  · rw [if_neg hi, if_neg hi]
theorem sm_eq (x y : Sm) : (x = y) ↔ x.n = y.n ∧ x.crc = y.crc ∧ x.dg = y.dg := by
  cases x; cases y; simp
instance sm_dec : DecidableEq Sm := fun f g => decidable_of_iff _ (sm_eq f g).symm
set_option maxRecDepth 100000 in
theorem eq_sm {x y : Sm} (hx : SmOk x) (hy : SmOk y) (d : Nat) (w : World) : (Op.equalIn (d + 3) 64 (.agg (rowArr 34 (smV x))) (.agg (rowArr 34 (smV y)))).run Tryz.prog w = .ok (decide (x = y)) w := by
  rw [run_equalIn_struct w (d + 2) 64 _ _ und_sm held_sm, eqF_of, fields_sm]
  have k1 := part_arr (P := Tryz.prog) (ty := 55) (N := 34) (off := 2) (n := 32) (F := smV x) (w := w) (Tryz.isAgg55 w) (Tryz.sizeOf55 w) (by omega)
  have k2 := part_arr (P := Tryz.prog) (ty := 55) (N := 34) (off := 2) (n := 32) (F := smV y) (w := w) (Tryz.isAgg55 w) (Tryz.sizeOf55 w) (by omega)
  rw [sm_arr] at k1 k2
  have e := eqF_cons (P := Tryz.prog) (d := d + 2) (nm := "Size") (ty := 3) (off := 0) (w := w) (by decide) (part_one (N := 34) (F := smV x) (Tryz.isAgg3 w) (by omega)) (part_one (N := 34) (F := smV y) (Tryz.isAgg3 w) (by omega)) (run_equalIn_int w (d + 1) 3 .i64 .i64 x.n y.n Tryz.underlying3)
    (eqF_cons (nm := "CRC") (ty := 44) (off := 1) (by decide) (part_one (N := 34) (F := smV x) (Tryz.isAgg44 w) (by omega)) (part_one (N := 34) (F := smV y) (Tryz.isAgg44 w) (by omega)) (run_equalIn_int w (d + 1) 44 .u32 .u32 (x.crc : Int) (y.crc : Int) Tryz.underlying44)
    (eqF_cons (nm := "Digest") (ty := 55) (off := 2) (by decide) k1 k2 (eq_arr Tryz.underlying55 hx.2.2.2 hy.2.2.2 hx.2.2.1 hy.2.2.1 d w)
    (show (eqF (d + 2) _ _ []).run Tryz.prog w = .ok true w from rfl)))
  rw [e]
  congr 1
  rw [Bool.eq_iff_iff]
  simp [sm_eq, Int.ofNat_inj]
theorem smAt_cells {w : World} {p off : Nat} {x : Sm} (h : SmAt w p off x) (hx : SmOk x) : ∀ j, j < 34 → w.cell? ⟨p, off + j, none⟩ = some (smV x j) := fun j hj => by
  unfold smV
  by_cases j0 : j = 0
  · subst j0
    rw [if_pos rfl]
    exact h.1
  · by_cases j1 : j = 1
    · subst j1
      rw [if_neg (by omega), if_pos rfl]
      exact h.2.1
    · rw [if_neg j0, if_neg j1]
      have hl : j - 2 < x.dg.length := by rw [hx.2.2.1]; omega
      have := h.2.2 (j - 2) hl
      rw [vOf_eq _ _ hl, ← this, show off + 2 + (j - 2) = off + j by omega]

end Go.Proofs.YtcopjbapglndgaaGreatDoor
end

section
namespace Go.Proofs.YtcopjbapglndgaaGreatDoor
open Go.ChangeShapes Go.WideShapes Go.ChangeAt Go.RowKit Go.Joins
set_option linter.unusedVariables false

def cntN (n s : Int) : Nat := if n < 1 ∨ s < 1 ∨ 256 < s then 0 else (n.toNat / s.toNat) + (if n.toNat % s.toNat = 0 then 0 else 1)
theorem cntN_le (n s : Int) : cntN n s ≤ n.toNat := by
  unfold cntN
  by_cases h : n < 1 ∨ s < 1 ∨ 256 < s
  · rw [if_pos h]
    omega
  · rw [if_neg h]
    have h1 : 0 < s.toNat := by omega
    have h2 := Nat.div_add_mod n.toNat s.toNat
    obtain ⟨q, hq⟩ : ∃ q, q = n.toNat / s.toNat := ⟨_, rfl⟩
    obtain ⟨r, hr⟩ : ∃ r, r = n.toNat % s.toNat := ⟨_, rfl⟩
    rw [← hq, ← hr] at h2
    rw [← hq, ← hr]
    have h3 : q ≤ s.toNat * q := Nat.le_mul_of_pos_left q h1
    split <;> omega

set_option maxHeartbeats 1000000 in
theorem count_any (n s : Int) (w : World) (hn : i64R n) (hs : i64R s) :
    Calls Tryz.prog 25 #[.int .i64 n, .int .i64 s] w fun e w' => e = .returned (.int .i64 (cntN n s : Nat)) ∧ w = w' := by
  obtain ⟨hn1, hn2⟩ := hn
  obtain ⟨hs1, hs2⟩ := hs
  by_cases h1 : n < 1
  · have HV : Hid (cntN n s = 0) := by show _ = _; unfold cntN; rw [if_pos (.inl h1)]
    go_enter Tryz.func25, Tryz.ntmps25
    go_wp2_with fail
    go_ret
    rw [HV.out]
    exact ⟨rfl, rfl⟩
  · by_cases h2 : s < 1
    · have HV : Hid (cntN n s = 0) := by show _ = _; unfold cntN; rw [if_pos (.inr (.inl h2))]
      go_enter Tryz.func25, Tryz.ntmps25
      go_wp2_with fail
      go_ret
      rw [HV.out]
      exact ⟨rfl, rfl⟩
    · by_cases h3 : 256 < s
      · have HV : Hid (cntN n s = 0) := by show _ = _; unfold cntN; rw [if_pos (.inr (.inr h3))]
        go_enter Tryz.func25, Tryz.ntmps25
        go_wp2_with fail
        go_ret
        rw [HV.out]
        exact ⟨rfl, rfl⟩
      · have HL := Lib.hid (cntN_le n s)
        have hV : cntN n s = (n.toNat / s.toNat) + (if n.toNat % s.toNat = 0 then 0 else 1) := by unfold cntN; rw [if_neg (by omega)]
        have hs0 : s ≠ 0 := by omega
        obtain ⟨N, rfl⟩ : ∃ N : Nat, n = (N : Int) := ⟨n.toNat, by omega⟩
        obtain ⟨S, rfl⟩ : ∃ S : Nat, s = (S : Int) := ⟨s.toNat, by omega⟩
        replace hV : cntN (N : Int) (S : Int) = (N / S) + (if N % S = 0 then 0 else 1) := hV
        have hq : ((N : Int)).tdiv (S : Int) = ((N / S : Nat) : Int) := by rw [Int.tdiv_eq_ediv_of_nonneg (by omega)]; rfl
        have hr : ((N : Int)).tmod (S : Int) = ((N % S : Nat) : Int) := by rw [Int.tmod_eq_emod_of_nonneg (by omega)]; rfl
        have hq2 : N / S ≤ N := Nat.div_le_self _ _
        obtain ⟨q, hqq⟩ : ∃ q, q = N / S := ⟨_, rfl⟩
        obtain ⟨r, hrr⟩ : ∃ r, r = N % S := ⟨_, rfl⟩
        rw [← hqq] at hq hV hq2
        rw [← hrr] at hr hV
        clear hqq hrr
        by_cases h4 : r = 0
        · rw [if_pos h4] at hV
          have HV := Lib.hid hV
          have h4z : (r : Int) = 0 := by omega
          rw [h4z] at hr
          clear hV
          go_enter Tryz.func25, Tryz.ntmps25
          go_wp2_with fail
          go_ret
          rw [HV.out]
          exact ⟨rfl, rfl⟩
        · rw [if_neg h4] at hV
          have HV := Lib.hid hV
          have h4z : (0 : Int) < (r : Int) := by omega
          have hq3 : q + 1 ≤ N := by have := HL.out; rw [hV] at this; omega
          clear hV
          go_enter Tryz.func25, Tryz.ntmps25
          go_wp2_with fail
          go_ret
          rw [HV.out]
          exact ⟨rfl, rfl⟩
end Go.Proofs.YtcopjbapglndgaaGreatDoor
end
