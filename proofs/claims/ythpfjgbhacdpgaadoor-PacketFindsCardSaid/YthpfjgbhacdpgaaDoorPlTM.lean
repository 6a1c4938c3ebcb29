/-
  Packets found among bytes: as a plain relation, and as a row that is made by append.
-/
import Derived.Test.YthpfjgbhacdpgaaDoorMg24
import Derived.Test.YthpfjgbhacdpgaaDoorPlGnM
import Derived.Great.Walk
namespace Go.Proofs.YthpfjgbhacdpgaaDoor
open Go.ChangeShapes Go.WideShapes Go.ChangeAt Go.RowKit Go.Joins
set_option linter.unusedVariables false

/-- What is found among bytes, from a place on. -/
inductive Finds (l : List Nat) : Nat → List (Nat × Pk) → Prop
  | stop {i : Nat} (h : l.length ≤ i) : Finds l i []
  | next {i : Nat} {fs : List (Nat × Pk)} (h : i < l.length) (hd : ∀ p n, decN (l.drop i) ≠ .ok p n) (k : Finds l (i + 1) fs) : Finds l i fs
  | here {i : Nat} {p : Pk} {n : Nat} {fs : List (Nat × Pk)} (h : i < l.length) (hd : decN (l.drop i) = .ok p n) (k : Finds l (i + n) fs) : Finds l i ((i, p) :: fs)
theorem finds_stop {l : List Nat} {i : Nat} {fs : List (Nat × Pk)} (h : Finds l i fs) (hi : l.length ≤ i) : fs = [] := by
  cases h with
  | stop _ => rfl
  | next h _ _ => omega
  | here h _ _ => omega
theorem finds_next {l : List Nat} {i : Nat} {fs : List (Nat × Pk)} (h : Finds l i fs) (hi : i < l.length) (hd : ∀ p n, decN (l.drop i) ≠ .ok p n) : Finds l (i + 1) fs := by
  cases h with
  | stop h => omega
  | next _ _ k => exact k
  | here _ h _ => exact absurd h (hd _ _)
theorem finds_here {l : List Nat} {i : Nat} {fs : List (Nat × Pk)} (h : Finds l i fs) (hi : i < l.length) {p : Pk} {n : Nat} (hd : decN (l.drop i) = .ok p n) : ∃ r, fs = (i, p) :: r ∧ Finds l (i + n) r := by
  cases h with
  | stop h => omega
  | next _ h _ => exact absurd hd (h _ _)
  | here _ h k =>
    rw [hd] at h
    cases h
    exact ⟨_, rfl, k⟩

/-- A packet found, and where its slices lie. -/
structure Fnd where
  pos : Nat
  p : Pk
  sa : Option Addr
  sc : Nat
  da : Option Addr
  dc : Nat
def Fnd.pair (f : Fnd) : Nat × Pk := (f.pos, f.p)
def fndV (f : Fnd) (j : Nat) : Value := if j = 0 then .int .i64 (f.pos : Int) else pkV f.p f.sa f.sc f.da f.dc (j - 1)
def oneF (f : Fnd) : List Value := (List.range 52).map (fndV f)
def encF (F : List Fnd) : List Value := F.flatMap oneF
theorem oneF_len (f : Fnd) : (oneF f).length = 52 := by simp [oneF]
theorem oneF_get (f : Fnd) {k : Nat} (hk : k < 52) : (oneF f)[k]? = some (fndV f k) := by
  unfold oneF
  rw [List.getElem?_map, List.getElem?_range hk]
  rfl
theorem encF_len : ∀ F : List Fnd, (encF F).length = F.length * 52
  | [] => rfl
  | x :: l => by
    have := encF_len l
    unfold encF at this ⊢
    simp only [List.flatMap_cons, List.length_append, this, List.length_cons, oneF_len]
    omega
theorem encF_app (l m : List Fnd) : encF (l ++ m) = encF l ++ encF m := by simp [encF]
theorem encF_get {l : List Fnd} : ∀ {i : Nat} (h : i < l.length) {k : Nat} (hk : k < 52), (encF l)[i * 52 + k]? = some (fndV l[i] k) := by
  induction l with
  | nil => intro i h; simp at h
  | cons x l ih =>
    intro i h k hk
    have e : encF (x :: l) = oneF x ++ encF l := rfl
    have hl := oneF_len x
    rw [e]
    cases i with
    | zero =>
      rw [List.getElem?_append_left (by omega), show 0 * 52 + k = k by omega, oneF_get x hk]
      rfl
    | succ i =>
      rw [List.getElem?_append_right (by omega), show (i + 1) * 52 + k - (oneF x).length = i * 52 + k by omega]
      exact ih (by simpa using h) hk
theorem pkV_one (p : Pk) (sa : Option Addr) (sc : Nat) (da : Option Addr) (dc : Nat) (j : Nat) : (pkV p sa sc da dc j).oneCell' = true := by
  unfold pkV
  (repeat' split) <;> first | rfl | skip
  unfold filV
  (repeat' split) <;> rfl
theorem fndV_one (f : Fnd) (j : Nat) : (fndV f j).oneCell' = true := by
  unfold fndV
  split
  · rfl
  · exact pkV_one _ _ _ _ _ _

/-- A row of them that is made by append. -/
def OwnF (B : Nat) (w : World) (v : Value) (F : List Fnd) : Prop := w.ownsRow B 47 52 v F.length (encF F)
theorem OwnF.nil (B : Nat) (w : World) : OwnF B w (.slice none 0 0) [] := World.ownsRow_nil _ _ _ _
theorem OwnF.slice {B : Nat} {w : World} {v : Value} {F : List Fnd} (h : OwnF B w v F) : ∃ a c, v = .slice a F.length c ∧ F.length ≤ c ∧ c ≤ maxLen := by
  rcases h.2 with ⟨h1, h2⟩ | ⟨g, cap, cur, h1, h2, h3, h4, h5, h6, h7⟩
  · exact ⟨none, 0, by rw [h1, h2], by omega, by unfold maxLen; omega⟩
  · exact ⟨_, cap, h1, h4, h5⟩
theorem OwnF.at {B : Nat} {w : World} {v : Value} {F : List Fnd} (h : OwnF B w v F) {b : Nat} (hb : v.ownBlock = some b) : B ≤ b ∧ b < w.heap.size := by
  rcases h.2 with ⟨rfl, _⟩ | ⟨g, cap, cur, rfl, hB, hh, _⟩
  · simp [Value.ownBlock] at hb
  · have : g = b := by simpa [Value.ownBlock] using hb
    subst this
    exact ⟨hB, (Array.getElem?_eq_some_iff.1 hh).1⟩
theorem OwnF.kept {B : Nat} {w w' : World} {v : Value} {F : List Fnd} (h : OwnF B w v F) (k : Below w.heap.size w w') : OwnF B w' v F := by
  refine ⟨h.1, ?_⟩
  rcases h.2 with h0 | ⟨g, cap, cur, e, hB, hh, r⟩
  · exact .inl h0
  · exact .inr ⟨g, cap, cur, e, hB, (k.block g (Array.getElem?_eq_some_iff.1 hh).1).trans hh, r⟩
/-- Its cells. -/
theorem OwnF.cells {B : Nat} {w : World} {a : Option Addr} {c : Nat} {F : List Fnd} (h : OwnF B w (.slice a F.length c) F) {i : Nat} (hi : i < F.length) :
    ∃ g, a = some ⟨g, 0, none⟩ ∧ g < w.heap.size ∧ ∀ k, k < 52 → w.cell? ⟨g, i * 52 + k, none⟩ = some (fndV F[i] k) := by
  rcases h.2 with ⟨h1, h2⟩ | ⟨g, cap, cur, h1, h2, h3, h4, h5, h6, h7⟩
  · omega
  · injection h1 with e1 e2 e3
    refine ⟨g, e1, (Array.getElem?_eq_some_iff.1 h3).1, fun k hk => ?_⟩
    rw [cell_of_block h3, ← encF_get hi hk, ← h7, List.getElem?_take_of_lt (by omega), Array.getElem?_toList]
theorem infoF : (Tryd.prog.info? 47).map (fun i => (i.zero, i.size, i.bytes)) = some (some (.agg #[.int .i64 0, .int .u8 0, .int .u8 0, .int .u8 0, .int .u8 0, .int .u8 0, .int .u8 0, .int .u8 0, .int .u8 0, .int .i64 0, .int .i64 0, .int .i64 0, .int .i64 0, .int .i64 0, .string { data := #[] }, .int .i64 0, .int .u8 0, .int .u8 0, .int .u8 0, .int .u8 0, .int .u8 0, .int .u8 0, .int .u8 0, .int .u8 0, .int .u8 0, .int .u8 0, .int .u8 0, .int .u8 0, .int .u8 0, .int .u8 0, .int .u8 0, .int .u8 0, .int .u8 0, .int .u8 0, .int .u8 0, .int .u8 0, .int .u8 0, .int .u8 0, .int .u8 0, .int .u8 0, .int .u8 0, .int .u8 0, .int .u8 0, .int .u8 0, .int .u8 0, .int .u8 0, .int .u8 0, .int .u8 0, .int .i64 0, .slice none 0 0, .int .u32 0, .slice none 0 0]), 52, 176) := by kernel_rfl
theorem infoF_q : ∃ i z, Tryd.prog.info? 47 = some i ∧ i.zero = some z ∧ z.cells.size = 52 ∧ i.size = 52 ∧ i.bytes = 176 := by
  have h := infoF
  cases hi : Tryd.prog.info? 47 with
  | none => rw [hi] at h; cases h
  | some i =>
    rw [hi] at h
    simp only [Option.map_some, Option.some.injEq, Prod.mk.injEq] at h
    exact ⟨i, _, rfl, h.1, rfl, h.2.1, h.2.2⟩
/-- One is appended. -/
theorem wpList_push_f {ops : Array Oper} {rest : List Oper} {o : Oper} {a : Act} {Q : Exit → Act → World → Prop} (w : World) (hgd : o.guard = none) (s x : Operand)
    (ho : o.op = .call { callee := .builtin .append, args := #[s, x], argTypes := #[44, 44] })
    (B : Nat) (v : Value) (l : List Fnd) (hs : a.eval s = v) (hown : OwnF B w v l) (g : Nat) (hx : a.eval x = .slice (some ⟨g, 0, none⟩) 1 1)
    (f : Fnd) (hc : ∀ k, k < 52 → w.cell? ⟨g, k, none⟩ = some (fndV f k)) (hB : B ≤ w.heap.size) (hlen : l.length ≤ 1000000)
    (h : ∀ v' w', Hid (OwnF B w' v' (l ++ [f])) → Hid (w.grownBy w' v.ownBlock) → Hid (v'.ownBlock = v.ownBlock ∨ v'.ownBlock = some w.heap.size) → wpList Tryd.prog ops Q rest (a.put o.dst v') w') : wpList Tryd.prog ops Q (o :: rest) a w := by
  obtain ⟨i0, z, hi, hz0, hzs, hz1, hz2⟩ := infoF_q
  have hn : ∀ j u, (oneF f)[j]? = some u → w.cell? ((⟨g, 0, none⟩ : Addr).add j) = some u := fun j u hj => by
    have hjl : j < 52 := by
      have := (List.getElem?_eq_some_iff.1 hj).1
      rw [oneF_len] at this
      exact this
    rw [oneF_get f hjl] at hj
    cases hj
    have := hc j hjl
    by_cases j0 : j = 0
    · subst j0; simpa [Addr.add] using this
    · simpa [Addr.add, j0] using this
  refine wpList_append_own_at w hgd s x 44 ho B 47 i0 z 52 176 Tryd.underlying44 hi hz0 hz1 hz2 hzs (by decide) v l.length _ hs hown ⟨g, 0, none⟩ 1 1 (oneF f) hx (oneF_len f) hn (fun u hu => by obtain ⟨k, _, rfl⟩ := List.mem_map.1 hu; exact fndV_one f k) (by unfold maxLen; omega) (by omega) hB ?_
  intro v' w' k1 k2 _ k5
  refine h v' w' ?_ k2 k5
  show OwnF B w' v' (l ++ [f])
  unfold OwnF
  rw [List.length_append, encF_app]
  simpa [encF] using k1

/-! A list of them, beside what is told of each. -/

def Apart (v : Value) (f : Fnd) : Prop := (f.p.sums ≠ [] → ∀ q, f.sa = some q → v.ownBlock ≠ some q.block) ∧ (f.p.data ≠ [] → ∀ q, f.da = some q → v.ownBlock ≠ some q.block)
structure FSt (w0 wr : World) (v : Value) (F : List Fnd) : Prop where
  own : OwnF w0.heap.size wr v F
  below : Below w0.heap.size w0 wr
  pks : ∀ f ∈ F, PkAt wr f.p f.sa f.sc f.da f.dc ∧ Apart v f
theorem PkAt.apart {w w' : World} {p : Pk} {sa : Option Addr} {sc : Nat} {da : Option Addr} {dc : Nat} {X : Nat → Prop} (h : PkAt w p sa sc da dc) (k : Fr X w w') (h1 : p.sums ≠ [] → ∀ q, sa = some q → ¬ X q.block) (h2 : p.data ≠ [] → ∀ q, da = some q → ¬ X q.block) : PkAt w' p sa sc da dc := by
  refine ⟨h.okk, ⟨h.sums.rng, h.sums.len, h.sums.most, ?_⟩, h.data.of_block fun q hq hl => k.block _ (h.data.blk q hq hl) (h2 hl q hq)⟩
  by_cases he : p.sums = []
  · exact .inl he
  rcases h.sums.here with e | ⟨b, off, e, hb, hc⟩
  · exact .inl e
  · refine .inr ⟨b, off, e, Nat.lt_of_lt_of_le hb k.size, fun i hi => ?_⟩
    have hbk : w'.heap[b]? = w.heap[b]? := k.block b hb (h1 he _ e)
    obtain ⟨c1, c2, c3⟩ := hc i hi
    exact ⟨(World.cell?_of_block (a := ⟨b, _, none⟩) hbk).trans c1, (World.cell?_of_block (a := ⟨b, _, none⟩) hbk).trans c2, fun j hj => (World.cell?_of_block (a := ⟨b, _, none⟩) hbk).trans (c3 j hj)⟩
theorem FSt.later {w0 wr w' : World} {v : Value} {F : List Fnd} (h : FSt w0 wr v F) (k : Below wr.heap.size wr w') : FSt w0 w' v F :=
  ⟨h.own.kept k, h.below.trans (k.mono h.below.size), fun f hf => ⟨(h.pks f hf).1.below k, (h.pks f hf).2⟩⟩
theorem FSt.push {w0 wr w' : World} {v v' : Value} {F : List Fnd} (h : FSt w0 wr v F) (f : Fnd) (hp : PkAt wr f.p f.sa f.sc f.da f.dc) (ha : Apart v f)
    (ho : OwnF w0.heap.size w' v' (F ++ [f])) (k : wr.grownBy w' v.ownBlock) (e : v'.ownBlock = v.ownBlock ∨ v'.ownBlock = some wr.heap.size) : FSt w0 w' v' (F ++ [f]) := by
  have hf : Fr (fun b => v.ownBlock = some b) wr w' := Fr.of_grown k fun b hb => hb
  have all : ∀ x ∈ F ++ [f], PkAt wr x.p x.sa x.sc x.da x.dc ∧ Apart v x := fun x hx => by
    rcases List.mem_append.1 hx with h1 | h1
    · exact h.pks x h1
    · have : x = f := by simpa using h1
      subst this
      exact ⟨hp, ha⟩
  refine ⟨ho, h.below.trans (hf.below h.below.size fun j hj hv => ?_), fun x hx => ⟨?_, ?_⟩⟩
  · have := (h.own.at hv).1
    omega
  · exact (all x hx).1.apart hf (fun hn q hq hb => (all x hx).2.1 hn q hq hb) (fun hn q hq hb => (all x hx).2.2 hn q hq hb)
  · obtain ⟨k1, k2, k3⟩ := all x hx
    refine ⟨fun hn q hq hb => ?_, fun hn q hq hb => ?_⟩
    · rcases e with e | e
      · exact k2 hn q hq (e ▸ hb)
      · rcases k1.sums.here with h0 | ⟨b, off, e2, hlt, _⟩
        · exact hn h0
        · rw [e2] at hq
          cases hq
          rw [e] at hb
          have h9 : wr.heap.size = b := Option.some.inj hb
          omega
    · rcases e with e | e
      · exact k3 hn q hq (e ▸ hb)
      · have hlt := k1.data.blk q hq hn
        rw [e] at hb
        have := Option.some.inj hb
        omega
theorem built_found (k : Nat) (V : Nat → Value) : Tryd.prog.built 47 [(0, .int .i64 (k : Int)), (1, .agg (rowArr 51 V))] = some (rowArr 52 fun j => if j = 0 then .int .i64 (k : Int) else V (j - 1)) := by kernel_rfl
theorem builtS_found (V : Nat → Value) : Tryd.prog.builtSlice 47 1 [(0, .agg (rowArr 52 V))] = some (rowArr 52 V) := by kernel_rfl
end Go.Proofs.YthpfjgbhacdpgaaDoor
