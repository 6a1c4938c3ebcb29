/-
  The document's Bodies: rows of kinds and of bodies.
  LOAD: a disk of so many files, read whole.
  The law on Load, walked.
  What the listed tables of package sum give, where start and rounds alone are listed; the heap of the door's own run meets the condition.
-/
import Derived.Test.YtfgaohilpbocbaaGreatDoorMl24
import Derived.Lib.QuietBelow
import Derived.Test.YtfgaohilpbocbaaGreatDoorTie
import Derived.Test.YtfgaohilpbocbaaGreatDoorCards
import Derived.SevenTiedAt
import Derived.LaidMore
import Derived.Stop.Joined
import Derived.SizedLaws
import Derived.ChangeOld
section
namespace Go.Proofs.YtfgaohilpbocbaaGreatDoor
open Go.ChangeShapes Go.WideShapes Go.ChangeAt Go.RowKit Go.Joins
set_option linter.unusedVariables false

theorem body_isByte {p : Pk} (hi : PkIn p) : IsByte (pkBody p) := by
  have hu : ∀ z : Int, u8N z < 256 := u8N_lt
  unfold pkBody
  split
  · unfold mainN
    intro x hx
    simp only [List.mem_append, List.mem_singleton] at hx
    rcases hx with (hx | hx) | hx
    · exact wideN_byte _ _ x hx
    · rw [hx]; exact hu _
    · exact wideN_byte _ _ x hx
  · split
    · unfold fileN
      intro x hx
      simp only [List.mem_append, List.mem_cons, List.not_mem_nil, or_false] at hx
      rcases hx with (((hx | hx) | hx) | hx) | hx
      · rcases hx with hx | hx <;> rw [hx] <;> exact hu _
      · exact hi.file.byte x hx
      · exact wideN_byte _ _ x hx
      · exact hi.file.dgb x hx
      · exact wideN_byte _ _ x hx
    · split
      · unfold sumsN
        intro x hx
        simp only [List.mem_append, List.mem_singleton, List.mem_flatten, List.mem_map] at hx
        rcases hx with (hx | hx) | ⟨y, ⟨z, hz, rfl⟩, hx⟩
        · rw [hx]; exact hu _
        · exact wideN_byte _ _ x hx
        · unfold sumN at hx
          simp only [List.mem_append] at hx
          rcases hx with (hx | hx) | hx
          · exact wideN_byte _ _ x hx
          · exact wideN_byte _ _ x hx
          · exact (hi.sums z hz).2.2.2 x hx
      · unfold symbolN
        intro x hx
        simp only [List.mem_append] at hx
        rcases hx with hx | hx
        · exact wideN_byte _ _ x hx
        · exact hi.data x hx

/-! Rows whose elements are one cell each. -/

def Own1 (e : TypeId) (B : Nat) (w : World) (v : Value) (xs : List Value) : Prop := w.ownsRow B e 1 v xs.length xs
theorem Own1.at {e : TypeId} {B : Nat} {w : World} {v : Value} {xs : List Value} (h : Own1 e B w v xs) {b : Nat} (hb : v.ownBlock = some b) : B ≤ b ∧ b < w.heap.size := by
  rcases h.2 with ⟨rfl, _⟩ | ⟨g, cap, cur, rfl, hB, hh, _⟩
  · simp [Value.ownBlock] at hb
  · have : g = b := by simpa [Value.ownBlock] using hb
    subst this
    exact ⟨hB, (Array.getElem?_eq_some_iff.1 hh).1⟩
theorem Own1.fr {e : TypeId} {B : Nat} {w w' : World} {v : Value} {xs : List Value} {X : Nat → Prop} (h : Own1 e B w v xs) (k : Fr X w w') (hX : ∀ b, v.ownBlock = some b → ¬ X b) : Own1 e B w' v xs := by
  refine ⟨h.1, ?_⟩
  rcases h.2 with h0 | ⟨g, cap, cur, e, hB, hh, r⟩
  · exact .inl h0
  · exact .inr ⟨g, cap, cur, e, hB, (k.block g (Array.getElem?_eq_some_iff.1 hh).1 (hX g (by rw [e]; rfl))).trans hh, r⟩
theorem Own1.kind {e : TypeId} {B : Nat} {w : World} {v : Value} {xs : List Value} (h : Own1 e B w v xs) {b : Nat} (hb : v.ownBlock = some b) : ∃ cs, w.heap[b]? = some (.cells cs e (0, 0)) := by
  rcases h.2 with ⟨rfl, _⟩ | ⟨g, cap, cur, rfl, hB, hh, _⟩
  · simp [Value.ownBlock] at hb
  · have : g = b := by simpa [Value.ownBlock] using hb
    subst this
    exact ⟨_, hh⟩
theorem Own1.slice {e : TypeId} {B : Nat} {w : World} {v : Value} {xs : List Value} (h : Own1 e B w v xs) : ∃ a c, v = .slice a xs.length c ∧ xs.length ≤ c ∧ c ≤ maxLen := by
  rcases h.2 with ⟨h1, h2⟩ | ⟨g, cap, cur, h1, h2, h3, h4, h5, h6, h7⟩
  · exact ⟨none, 0, by rw [h1, h2], by omega, by unfold maxLen; omega⟩
  · exact ⟨_, cap, h1, h4, h5⟩
theorem Own1.cell {e : TypeId} {B : Nat} {w : World} {a : Option Addr} {c : Nat} {xs : List Value} (h : Own1 e B w (.slice a xs.length c) xs) {i : Nat} (hi : i < xs.length) :
    ∃ g, a = some ⟨g, 0, none⟩ ∧ g < w.heap.size ∧ w.cell? ⟨g, i, none⟩ = some xs[i] := by
  rcases h.2 with ⟨h1, h2⟩ | ⟨g, cap, cur, h1, h2, h3, h4, h5, h6, h7⟩
  · omega
  · injection h1 with e1 e2 e3
    refine ⟨g, e1, (Array.getElem?_eq_some_iff.1 h3).1, ?_⟩
    rw [cell_of_block h3, ← List.getElem?_eq_getElem hi, ← h7, List.getElem?_take_of_lt (by omega)]
    simp
theorem OwnB.kind {w : World} {v : Value} {l : List Nat} (h : OwnB w v l) {b : Nat} (hb : v.ownBlock = some b) : ∃ cs, w.heap[b]? = some (.cells cs 5 (0, 0)) := by
  rcases h.2 with ⟨rfl, _⟩ | ⟨g, cap, cur, rfl, hB, hh, _⟩
  · simp [Value.ownBlock] at hb
  · have : g = b := by simpa [Value.ownBlock] using hb
    subst this
    exact ⟨_, hh⟩
theorem run_push_1 (w : World) (ty t e : TypeId) {z : Value} {bytes : Nat} (hu : Tryz.prog.underlying t = some (.slice e)) (hinf : (Tryz.prog.info? e).map (fun i => (i.zero, i.size, i.bytes)) = some (some z, 1, bytes)) (hzs : z.cells.size = 1) (hby : bytes ≤ 1000)
    (B : Nat) (v : Value) (xs : List Value) (hown : Own1 e B w v xs) (g m : Nat) (ys : List Value) (hm : ys.length = m) (hc : w.heap[g]? = some (.cells ys.toArray e (0, 0))) (h1 : ∀ u ∈ ys, u.oneCell' = true) (hB : B ≤ w.heap.size) (hlen : xs.length ≤ 1000000) (hlm : m ≤ 1000000) :
    ∃ v' w', (Builtin.append_ #[t, t] ty #[v, .slice (some ⟨g, 0, none⟩) m m]).run Tryz.prog w = .ok v' w' ∧ Own1 e B w' v' (xs ++ ys) ∧ w.grownBy w' v.ownBlock ∧ (v'.ownBlock = v.ownBlock ∨ v'.ownBlock = some w.heap.size) := by
  obtain ⟨i0, hi, hz0, hz1, hz2⟩ := info_parts hinf
  have hn : ∀ j u, ys[j]? = some u → w.cell? ((⟨g, 0, none⟩ : Addr).add j) = some u := fun j u hj => by
    rw [addr_add, Nat.zero_add, cell_of_block hc]
    simpa using hj
  have hb2 : (xs.length + m) * bytes ≤ 2000000 * 1000 := Nat.mul_le_mul (by omega) hby
  obtain ⟨v', w', hr, k1, k2, _, k5⟩ := run_append_own_at (P := Tryz.prog) w B t ty e i0 z 1 bytes hu hi hz0 hz1 hz2 hzs (by decide) v xs.length xs hown ⟨g, 0, none⟩ m m ys (by rw [hm]; omega) hn h1 (by unfold maxLen; omega) (by omega) hB
  refine ⟨v', w', hr, ?_, k2, k5⟩
  unfold Own1
  rw [List.length_append, hm]
  exact k1
theorem op_push_1 {o : Oper} {a : Act} {K : Act → World → Prop} {Q : Exit → Act → World → Prop} (w : World) (s x : Operand) (t e : TypeId) {z : Value} {bytes : Nat} (ho : o.op = .call { callee := .builtin .append, args := #[s, x], argTypes := #[t, t] })
    (hu : Tryz.prog.underlying t = some (.slice e)) (hinf : (Tryz.prog.info? e).map (fun i => (i.zero, i.size, i.bytes)) = some (some z, 1, bytes)) (hzs : z.cells.size = 1) (hby : bytes ≤ 1000)
    (B : Nat) (v : Value) (xs : List Value) (hs : a.eval s = v) (hown : Own1 e B w v xs) (g m : Nat) (hx : a.eval x = .slice (some ⟨g, 0, none⟩) m m) (ys : List Value) (hm : ys.length = m) (hc : w.heap[g]? = some (.cells ys.toArray e (0, 0))) (h1 : ∀ u ∈ ys, u.oneCell' = true) (hB : B ≤ w.heap.size) (hlen : xs.length ≤ 1000000) (hlm : m ≤ 1000000)
    (h : ∀ v' w', Hid (Own1 e B w' v' (xs ++ ys)) → Hid (w.grownBy w' v.ownBlock) → Hid (v'.ownBlock = v.ownBlock ∨ v'.ownBlock = some w.heap.size) → K (a.put o.dst v') w') : o.wp Tryz.prog a w K Q := by
  obtain ⟨v', w', hr, k1, k2, k3⟩ := run_push_1 w o.type t e hu hinf hzs hby B v xs hown g m ys hm hc h1 hB hlen hlm
  unfold Oper.wp execOp
  simp only [ho, resolve, invoke, builtin, Sem.run_bind, Sem.run_pure, Result.andThen_ok, List.map_toArray, List.map_cons, List.map_nil, hs, hx, hr]
  exact h _ _ k1 k2 k3
theorem wpList_push_1 {ops : Array Oper} {rest : List Oper} {o : Oper} {a : Act} {Q : Exit → Act → World → Prop} (w : World) (hgd : o.guard = none) (s x : Operand) (t e : TypeId) {z : Value} {bytes : Nat} (ho : o.op = .call { callee := .builtin .append, args := #[s, x], argTypes := #[t, t] })
    (hu : Tryz.prog.underlying t = some (.slice e)) (hinf : (Tryz.prog.info? e).map (fun i => (i.zero, i.size, i.bytes)) = some (some z, 1, bytes)) (hzs : z.cells.size = 1) (hby : bytes ≤ 1000)
    (B : Nat) (v : Value) (xs : List Value) (hs : a.eval s = v) (hown : Own1 e B w v xs) (g m : Nat) (hx : a.eval x = .slice (some ⟨g, 0, none⟩) m m) (ys : List Value) (hm : ys.length = m) (hc : w.heap[g]? = some (.cells ys.toArray e (0, 0))) (h1 : ∀ u ∈ ys, u.oneCell' = true) (hB : B ≤ w.heap.size) (hlen : xs.length ≤ 1000000) (hlm : m ≤ 1000000)
    (h : ∀ v' w', Hid (Own1 e B w' v' (xs ++ ys)) → Hid (w.grownBy w' v.ownBlock) → Hid (v'.ownBlock = v.ownBlock ∨ v'.ownBlock = some w.heap.size) → wpList Tryz.prog ops Q rest (a.put o.dst v') w') : wpList Tryz.prog ops Q (o :: rest) a w :=
  wpList_plain hgd fun K hK => op_push_1 w s x t e ho hu hinf hzs hby B v xs hs hown g m hx ys hm hc h1 hB hlen hlm fun v' w' a1 a2 a3 => hK _ _ (h v' w' a1 a2 a3)
theorem infoInt : (Tryz.prog.info? 3).map (fun i => (i.zero, i.size, i.bytes)) = some (some (.int .i64 0), 1, 8) := by kernel_rfl
theorem infoBs : (Tryz.prog.info? 53).map (fun i => (i.zero, i.size, i.bytes)) = some (some (.slice none 0 0), 1, 24) := by kernel_rfl

/-- A body that is made, and its value. -/
structure Bw where
  v : Value
  l : List Nat
structure BoSt (w0 wr : World) (kv bv : Value) (K : List Int) (F : List Bw) : Prop where
  ko : Own1 3 w0.heap.size wr kv (K.map (Value.int .i64))
  bo : Own1 53 w0.heap.size wr bv (F.map (·.v))
  below : Below w0.heap.size w0 wr
  bods : ∀ b ∈ F, OwnB wr b.v b.l ∧ IsByte b.l
theorem BoSt.later {w0 wr w' : World} {kv bv : Value} {K : List Int} {F : List Bw} (h : BoSt w0 wr kv bv K F) (k : Below wr.heap.size wr w') : BoSt w0 w' kv bv K F :=
  ⟨h.ko.fr (X := fun _ => False) (Fr.of_below k) (fun _ _ h => h), h.bo.fr (X := fun _ => False) (Fr.of_below k) (fun _ _ h => h), h.below.trans (k.mono h.below.size), fun b hb => ⟨(h.bods b hb).1.fr (X := fun _ => False) (Fr.of_below k) (fun _ _ h => h), (h.bods b hb).2⟩⟩
theorem kinds_ne {w : World} {b : Nat} {cs cs' : Array Value} {e e' : TypeId} (h1 : w.heap[b]? = some (.cells cs e (0, 0))) (h2 : w.heap[b]? = some (.cells cs' e' (0, 0))) (hne : e ≠ e') : False := by
  rw [h1] at h2
  simp at h2
  exact hne h2.2
theorem BoSt.kinds {w0 wr w' : World} {kv bv kv' : Value} {K G : List Int} {F : List Bw} (h : BoSt w0 wr kv bv K F) (o : Own1 3 w0.heap.size w' kv' ((K.map (Value.int .i64)) ++ G.map (Value.int .i64))) (k : wr.grownBy w' kv.ownBlock) : BoSt w0 w' kv' bv (K ++ G) F := by
  have hf : Fr (fun b => kv.ownBlock = some b) wr w' := Fr.of_grown k fun b hb => hb
  refine ⟨by rw [List.map_append]; exact o, h.bo.fr hf fun b hb hX => ?_, h.below.trans (hf.below h.below.size fun j hj hX => by have := (h.ko.at hX).1; omega), fun b hb => ⟨(h.bods b hb).1.fr hf fun j hj hX => ?_, (h.bods b hb).2⟩⟩
  · obtain ⟨_, c1⟩ := h.bo.kind hb
    obtain ⟨_, c2⟩ := h.ko.kind hX
    exact kinds_ne c1 c2 (by decide)
  · obtain ⟨_, c1⟩ := (h.bods b hb).1.kind hj
    obtain ⟨_, c2⟩ := h.ko.kind hX
    exact kinds_ne c1 c2 (by decide)
theorem BoSt.more {w0 wr w' : World} {kv bv bv' : Value} {K : List Int} {F G : List Bw} (h : BoSt w0 wr kv bv K F) (hG : ∀ b ∈ G, OwnB wr b.v b.l ∧ IsByte b.l) (o : Own1 53 w0.heap.size w' bv' (F.map (·.v) ++ G.map (·.v))) (k : wr.grownBy w' bv.ownBlock) : BoSt w0 w' kv bv' K (F ++ G) := by
  have hf : Fr (fun b => bv.ownBlock = some b) wr w' := Fr.of_grown k fun b hb => hb
  have hall : ∀ b ∈ F ++ G, OwnB wr b.v b.l ∧ IsByte b.l := fun b hb => by
    rcases List.mem_append.1 hb with h1 | h1
    · exact h.bods b h1
    · exact hG b h1
  refine ⟨h.ko.fr hf fun b hb hX => ?_, by rw [List.map_append]; exact o, h.below.trans (hf.below h.below.size fun j hj hX => by have := (h.bo.at hX).1; omega), fun b hb => ⟨(hall b hb).1.fr hf fun j hj hX => ?_, (hall b hb).2⟩⟩
  · obtain ⟨_, c1⟩ := h.ko.kind hb
    obtain ⟨_, c2⟩ := h.bo.kind hX
    exact kinds_ne c1 c2 (by decide)
  · obtain ⟨_, c1⟩ := (hall b hb).1.kind hj
    obtain ⟨_, c2⟩ := h.bo.kind hX
    exact kinds_ne c1 c2 (by decide)
end Go.Proofs.YtfgaohilpbocbaaGreatDoor
end

section
namespace Go.Proofs.YtfgaohilpbocbaaGreatDoor
open Go.ChangeShapes Go.WideShapes Go.ChangeAt Go.RowKit Go.Joins Go.Maps Go.Sort
set_option linter.unusedVariables false

def NSv (k : Nat) : List Value := (List.range k).map fun i => .string (nmL i)
theorem names_v (k : Nat) (hk : k ≤ 8) : (namesD (tabL k)).map encStr = NSv k := by
  rw [names_tab k hk, List.map_map]
  rfl
theorem own_raise {w : World} {B e s n : Nat} {v : Value} {xs : List Value} (h : w.ownsRow 0 e s v n xs) (hB : ∀ k, v.ownBlock = some k → B ≤ k) : w.ownsRow B e s v n xs := by
  refine ⟨h.1, ?_⟩
  rcases h.2 with h0 | ⟨g, cap, cur, hv, hg0, hg, r⟩
  · exact .inl h0
  · exact .inr ⟨g, cap, cur, hv, hB g (by rw [hv]; rfl), hg, r⟩
theorem fr_new {X : Nat → Prop} {w wr w' : World} (h : Fr X w wr) (k : Fr (fun j => w.heap.size ≤ j) wr w') : Fr X w w' :=
  ⟨k.os.trans h.os, k.tape.trans h.tape, k.output.trans h.output, Nat.le_trans h.size k.size, fun i hi hx => (k.block i (Nat.lt_of_lt_of_le hi h.size) (by omega)).trans (h.block i hi hx)⟩
def slV (na : Option Addr) (nn nc : Nat) (ba : Option Addr) (bn bc : Nat) (j : Nat) : Value := if j = 0 then .slice na nn nc else .slice ba bn bc
def zSt : Array Value := #[.slice none 0 0, .slice none 0 0]
/-- A store that is being read: in its box, beside the result's. -/
structure LoSt (W0 bx : Nat) (wr : World) (nv bv : Value) (n : Nat) (F : List Bw) : Prop where
  res : wr.heap[W0]? = some (.cells zSt 34 (0, 0))
  box : wr.heap[bx]? = some (.cells #[nv, bv] 34 (0, 0))
  lo : W0 < bx
  no : Own1 9 (W0 + 1) wr nv (NSv n)
  bo : Own1 53 (W0 + 1) wr bv (F.map (·.v))
  bods : ∀ b ∈ F, OwnB wr b.v b.l ∧ IsByte b.l
theorem LoSt.fr {X : Nat → Prop} {W0 bx : Nat} {wr w' : World} {nv bv : Value} {n : Nat} {F : List Bw} (h : LoSt W0 bx wr nv bv n F) (k : Fr X wr w') (h1 : ∀ j, X j → j < W0) (h2 : ∀ j, X j → ∃ cs e, wr.heap[j]? = some (.cells cs e (0, 0)) ∧ e ≠ 5) : LoSt W0 bx w' nv bv n F := by
  have hl := h.lo
  refine ⟨(k.block _ (blk_lt h.res) fun hX => by have := h1 _ hX; omega).trans h.res, (k.block _ (blk_lt h.box) fun hX => by have := h1 _ hX; omega).trans h.box, hl, h.no.fr k fun b hb hX => ?_, h.bo.fr k fun b hb hX => ?_, fun b hb => ⟨(h.bods b hb).1.fr k fun j hj hX => ?_, (h.bods b hb).2⟩⟩
  · have := (h.no.at hb).1; have := h1 _ hX; omega
  · have := (h.bo.at hb).1; have := h1 _ hX; omega
  · obtain ⟨_, c1⟩ := (h.bods b hb).1.kind hj
    obtain ⟨_, e, c2, hne⟩ := h2 _ hX
    exact kinds_ne c1 c2 (Ne.symm hne)
theorem LoSt.below {W0 bx : Nat} {wr w' : World} {nv bv : Value} {n : Nat} {F : List Bw} (h : LoSt W0 bx wr nv bv n F) (k : Below wr.heap.size wr w') : LoSt W0 bx w' nv bv n F :=
  h.fr (X := fun _ => False) (Fr.of_below k) (fun _ h => h.elim) (fun _ h => h.elim)
/-- One more file's bytes: pushed, and stored into the box. -/
theorem LoSt.push {W0 bx : Nat} {wr w' : World} {nv bv v' : Value} {n : Nat} {F : List Bw} {b : Bw} (h : LoSt W0 bx wr nv bv n F) (hb : OwnB wr b.v b.l) (hbb : IsByte b.l)
    (o : Own1 53 (W0 + 1) w' v' (F.map (·.v) ++ [b.v])) (g : wr.grownBy w' bv.ownBlock) (e : v'.ownBlock = bv.ownBlock ∨ v'.ownBlock = some wr.heap.size) :
    w'.heap[bx]? = some (.cells #[nv, bv] 34 (0, 0)) ∧ LoSt W0 bx (w'.setCell ⟨bx, 1, none⟩ v') nv v' n (F ++ [b]) ∧ Fr (fun j => W0 ≤ j) wr (w'.setCell ⟨bx, 1, none⟩ v') := by
  have hl := h.lo
  have k : Fr (fun j => bv.ownBlock = some j) wr w' := Fr.of_grown g fun b hb => hb
  have kn : ∀ j cs e', wr.heap[j]? = some (.cells cs e' (0, 0)) → e' ≠ 53 → ¬ bv.ownBlock = some j := fun j cs e' hj hne hX => by
    obtain ⟨_, c⟩ := h.bo.kind hX
    exact kinds_ne hj c hne
  have hbx : w'.heap[bx]? = some (.cells #[nv, bv] 34 (0, 0)) := (k.block _ (blk_lt h.box) (kn _ _ _ h.box (by decide))).trans h.box
  have h0 : w'.heap[W0]? = some (.cells zSt 34 (0, 0)) := (k.block _ (blk_lt h.res) (kn _ _ _ h.res (by decide))).trans h.res
  have f2 : Fr (fun j => j = bx) w' (w'.setCell ⟨bx, 1, none⟩ v') := (Fr.refl (fun j => j = bx) w').set (p := ⟨bx, 1, none⟩) (fun _ => rfl) v'
  have hbx2 : (w'.setCell ⟨bx, 1, none⟩ v').heap[bx]? = some (.cells #[nv, v'] 34 (0, 0)) := by
    simp [World.setCell, Array.getElem?_modify, hbx]
  refine ⟨hbx, ⟨(f2.block _ (blk_lt h0) (by omega)).trans h0, hbx2, hl, ?_, ?_, fun x hx => ?_⟩, ?_⟩
  · refine (h.no.fr k fun j hj hX => ?_).fr f2 fun j hj hX => ?_
    · obtain ⟨_, c⟩ := h.no.kind hj
      exact kn _ _ _ c (by decide) hX
    · obtain ⟨_, c⟩ := h.no.kind hj
      subst hX
      exact kinds_ne c h.box (by decide)
  · rw [List.map_append]
    refine Own1.fr o f2 fun j hj hX => ?_
    obtain ⟨_, c⟩ := Own1.kind o hj
    subst hX
    exact kinds_ne c hbx (by decide)
  · have hx' : OwnB wr x.v x.l ∧ IsByte x.l := by
      rcases List.mem_append.1 hx with hx | hx
      · exact h.bods x hx
      · rw [List.mem_singleton.1 hx]; exact ⟨hb, hbb⟩
    refine ⟨(hx'.1.fr k fun j hj hX => ?_).fr f2 fun j hj hX => ?_, hx'.2⟩
    · obtain ⟨_, c⟩ := hx'.1.kind hj
      exact kn _ _ _ c (by decide) hX
    · obtain ⟨_, c⟩ := hx'.1.kind hj
      subst hX
      exact kinds_ne c h.box (by decide)
  · refine (k.mono (Y := fun j => W0 ≤ j) fun j _ hj => by have := (h.bo.at hj).1; omega).trans (f2.mono fun j _ hj => by omega)
theorem nsv_len (n : Nat) : (NSv n).length = n := by unfold NSv; simp
theorem names_cell {B : Nat} {w : World} {na : Option Addr} {n nc k : Nat} (h : Own1 9 B w (.slice na n nc) (NSv n)) (hk : k < n) : ∃ g, na = some ⟨g, 0, none⟩ ∧ g < w.heap.size ∧ w.cell? ⟨g, k, none⟩ = some (.string (nmL k)) := by
  have e : Value.slice na n nc = .slice na (NSv n).length nc := by rw [nsv_len]
  rw [e] at h
  obtain ⟨g, h1, h2, h3⟩ := h.cell (i := k) (by rw [nsv_len]; exact hk)
  refine ⟨g, h1, h2, h3.trans ?_⟩
  unfold NSv
  simp
def LoadPost (BD : Nat) (S : DSt) (g : Gh) (L : List (List Nat)) (w : World) (e : Ending) (w' : World) : Prop :=
  ∃ (nv bv : Value) (F : List Bw), e = .returned (.tuple #[.agg #[nv, bv], .int .i64 0]) ∧ Own1 9 (w.heap.size + 1) w' nv (NSv L.length) ∧ Own1 53 (w.heap.size + 1) w' bv (F.map (·.v)) ∧ F.map (·.l) = L ∧ (∀ b ∈ F, OwnB w' b.v b.l ∧ IsByte b.l) ∧ Rep w' BD S g ∧ Fr (fun j => j = BD) w w'
set_option maxRecDepth 100000 in
set_option maxHeartbeats 4000000 in
theorem load_any {w : World} {BD : Nat} {S : DSt} {g : Gh} {L : List (List Nat)} (h : Rep w BD S g) (hS : LdS L L.length S) (hL : L.length ≤ 8) (hbL : ∀ x ∈ L, IsByte x) :
    Calls Tryz.prog 27 #[.pointer (some ⟨BD, 0, none⟩)] w (LoadPost BD S g L w) := by
  have H := Lib.hid h
  have HS := Lib.hid hS
  have HLB := Lib.hid hbL
  have hb0 : Below w.heap.size w (w.alloc (.cells zSt 34)) := (Below.refl _ _).alloc (Nat.le_refl _) _
  have HB0 := Lib.hid hb0
  have HZ0 : Hid ((w.alloc (.cells zSt 34)).heap[w.heap.size]? = some (.cells zSt 34 (0, 0))) := heap_alloc_last w _
  clear h hS hbL hb0
  go_enter Tryz.func27, Tryz.ntmps27
  go_upto_region 1 with fail
  change Code.wp _ _ _ _ (w.alloc (.cells zSt 34))
  obtain ⟨W0, hW0⟩ : ∃ W0, W0 = w.heap.size := ⟨_, rfl⟩
  rw [← hW0] at HZ0 ⊢
  obtain ⟨w1, hw1⟩ : ∃ w1, w1 = w.alloc (.cells zSt 34) := ⟨_, rfl⟩
  rw [← hw1] at HZ0 HB0 ⊢
  have HW0 := Lib.hid hW0
  clear hw1 hW0
  have hlost := lost_any (x := g.on S.d) ((H.out.later HB0.out).at')
  have e0 : (g.on S.d).lost = false := HS.out.lost
  rw [e0] at hlost
  have hnm := names_rep (H.out.later HB0.out) (by rw [HS.out.steps]; omega)
  go_wp2_with fail
  (with_reducible refine hlost.mono ?_)
  rintro e w2 ⟨rfl, rfl⟩
  clear hlost e0
  go_wp2_with fail
  (with_reducible refine hnm.mono ?_)
  rintro e w3 ⟨nv, rfl, N⟩
  clear hnm
  have hno : Own1 9 (W0 + 1) w3 nv (NSv L.length) := by
    have h1 := N.row
    have h2 := names_v L.length hL
    rw [← HS.out.dn] at h2
    rw [h2] at h1
    have h3 : (namesD S.Dn).length = (NSv L.length).length := by rw [← h2, List.length_map]
    rw [h3] at h1
    exact own_raise h1 fun k hk => by have h4 := N.new k hk; have h5 := (Array.getElem?_eq_some_iff.1 HZ0.out).1; omega
  have hb3 := N.low
  clear N
  obtain ⟨na, nc, rfl, hnl, hnm⟩ := hno.slice
  have hnsl : (NSv L.length).length = L.length := by unfold NSv; simp
  rw [hnsl] at hno hnl ⊢
  have HNO := Lib.hid hno
  have HB3 := Lib.hid (HB0.out.trans (hb3.mono HB0.out.size))
  have HZ3 : Hid (w3.heap[W0]? = some (.cells zSt 34 (0, 0))) := (hb3.block _ (Array.getElem?_eq_some_iff.1 HZ0.out).1).trans HZ0.out
  clear hno hb3 HZ0 HB0
  go_upto_region 6 with fail
  have hJ0 : LoSt W0 w3.heap.size (w3.alloc (.cells #[.slice na L.length nc, .slice none 0 0] 34)) (.slice na L.length nc) (.slice none 0 0) L.length [] := by
    have hb4 : Below w3.heap.size w3 (w3.alloc (.cells #[.slice na L.length nc, .slice none 0 0] 34)) := (Below.refl _ _).alloc (Nat.le_refl _) _
    refine ⟨(hb4.block _ (blk_lt HZ3.out)).trans HZ3.out, heap_alloc_last w3 _, blk_lt HZ3.out, HNO.out.fr (X := fun _ => False) (Fr.of_below hb4) (fun _ _ h => h), World.ownsRow_nil _ _ _ _, fun b hb => (by cases hb)⟩
  have hB4 : Below w.heap.size w (w3.alloc (.cells #[.slice na L.length nc, .slice none 0 0] 34)) := HB3.out.alloc HB3.out.size _
  have HR0 : Hid (Rep (w3.alloc (.cells #[.slice na L.length nc, .slice none 0 0] 34)) BD S g) := H.out.later hB4
  have HF0 : Hid (Fr (fun j => j = BD) w (w3.alloc (.cells #[.slice na L.length nc, .slice none 0 0] 34))) := Fr.of_below hB4
  have HJ0 := Lib.hid hJ0
  have c0 := cell_of_block hJ0.box
  obtain ⟨bx, hbx⟩ : ∃ bx, bx = w3.heap.size := ⟨_, rfl⟩
  rw [← hbx] at c0 HJ0 ⊢
  generalize w3.alloc (.cells #[.slice na L.length nc, .slice none 0 0] 34) = w4 at *
  clear hJ0 hB4 HB3 HZ3 HNO hbx
  have c0 := c0 0
  simp at c0
  have HM0 : Hid (([] : List Bw).map (·.l) = L.take 0) := rfl
  go_wp2_with fail
  clear c0
  go_loopw [21] (fun i wr => ∃ (k : Nat) (bv : Value) (F : List Bw), k ≤ L.length ∧ i = .int .i64 k ∧ Hid (LoSt W0 bx wr (.slice na L.length nc) bv L.length F) ∧ Hid (F.map (·.l) = L.take k) ∧ Hid (Rep wr BD S g) ∧ Hid (Fr (fun j => j = BD) w wr)) (fun i _ => L.length - (intOf i).toNat)
  case atStart => exact ⟨0, _, _, by omega, rfl, HJ0, HM0, HR0, HF0⟩
  case round =>
    obtain ⟨k, bv, F, hk, rfl, HJ, HMl, HR, HF⟩ := hrel
    clear HJ0 HM0 HR0 HF0
    by_cases hlt : k < L.length
    · have d : decide ((k : Int) < (L.length : Int)) = true := by simp; omega
      obtain ⟨g0, rfl, hg0, hck⟩ := names_cell HJ.out.no hlt
      have hrd := dread_any (nmL k) HR.out (by show 1 ≤ maxLen; unfold maxLen; omega)
      obtain ⟨e1, e2⟩ := HS.out.read hL k hlt hlt
      have HE1 := Lib.hid e1
      have HE2 := Lib.hid e2
      clear e1 e2
      go_wp2_with fail
      (with_reducible refine hrd.mono ?_)
      rintro e w5 ⟨v, w45, rfl, r1, r2, r3, r4⟩
      rw [HE1.out] at r1 r4
      have e3 : (readS (nmL k) S).1 = 0 := by rw [HE1.out]
      rw [e3]
      have hro : OwnB w5 v L[k] := by
        rcases r4 with ⟨h5, _⟩ | ⟨_, h6⟩
        · exact absurd rfl h5
        · rw [HE2.out] at h6; exact h6
      have hf5 : Fr (fun j => j = BD) wr w5 := (Fr.of_only (X := fun j => j = BD) r2 rfl).later r3
      have hbd : BD < W0 := by rw [HW0.out]; exact H.out.foot_lt (.inl rfl)
      have hJ5 := HJ.out.fr hf5 (fun j hj => by rw [hj]; exact hbd) (fun j hj => by rw [hj]; exact ⟨_, _, HR.out.at'.blk, by decide⟩)
      have HJ5 := Lib.hid hJ5
      have HRO := Lib.hid hro
      have HR5 : Hid (Rep w5 BD S g) := r1
      have HF5 : Hid (Fr (fun j => j = BD) w w5) := HF.out.trans hf5
      have c1 : w5.cell? ⟨bx, 1, none⟩ = some bv := by rw [cell_of_block hJ5.box]; rfl
      obtain ⟨va, vc, rfl, _, _⟩ := own_shape hro
      have hfl : F.length = k := by have := congrArg List.length HMl.out; simp at this; omega
      obtain ⟨ba, bc, hbv, _, _⟩ := hJ5.bo.slice
      rw [List.length_map, hfl] at hbv
      subst hbv
      clear hrd hck HE1 HE2 r1 r2 r3 r4 e3 hro hf5 hbd hJ5 HJ HR HF
      go_wp2_with (at_builtin; refine wpList_push_1 _ rfl _ _ 31 53 rfl Tryz.underlying31 infoBs rfl (by decide) (W0 + 1) _ (F.map (·.v)) rfl (HJ5.out.below ((Below.refl _ _).alloc (Nat.le_refl _) _)).bo w5.heap.size 1 rfl [.slice va L[k].length vc] rfl (heap_alloc_last w5 _) (by simp [Value.oneCell']) (by have := blk_lt HJ5.out.box; have := HJ5.out.lo; simp; omega) (by rw [List.length_map]; omega) (by decide) ?_; intro v' w7 o7 g7 e7; obtain ⟨pa, pc, hv7, _, _⟩ := o7.out.slice; have hv8 : v' = .slice pa (k + 1) pc := (by rw [hv7]; simp [hfl]); clear hv7; subst hv8; have hbb6 : Below w5.heap.size w5 (w5.alloc (.cells #[.slice va L[k].length vc] 53)) := (Below.refl _ _).alloc (Nat.le_refl _) _; have hp := LoSt.push (HJ5.out.below hbb6) (b := ⟨.slice va L[k].length vc, L[k]⟩) (HRO.out.fr (X := fun _ => False) (Fr.of_below hbb6) (fun _ _ h => h)) (HLB.out _ (List.getElem_mem hlt)) o7.out g7.out e7.out; have HP := Lib.hid hp; have HB6 := Lib.hid hbb6; have c1' : w7.cell? ⟨bx, 1, none⟩ = some _ := (cell_of_block hp.1 1).trans rfl; have f1' := unfrozen_of_block hp.1 1; clear o7 g7 e7 hbb6 hp c1)
      go_roundw
      case rel => exact ⟨k + 1, _, F ++ [⟨.slice va L[k].length vc, L[k]⟩], by omega, by go_num, Lib.hid HP.out.2.1, by show _ = _; rw [List.map_append, HMl.out, List.take_succ_eq_append_getElem hlt]; rfl, HR5.out.fr ((Fr.of_below HB6.out).trans HP.out.2.2) fun j hj hX => by have := H.out.foot_lt hj; have := HW0.out; omega, fr_new HF5.out (((Fr.of_below HB6.out).trans HP.out.2.2).mono fun j _ hj => by have := HW0.out; omega)⟩
      case measure => simp [intOf]; omega
    · have hkL : k = L.length := by omega
      subst hkL
      have d : decide ((L.length : Int) < (L.length : Int)) = false := by simp
      have hfl : F.length = L.length := by have := congrArg List.length HMl.out; simp at this; exact this
      obtain ⟨ba, bc, hbv, _, _⟩ := HJ.out.bo.slice
      rw [List.length_map, hfl] at hbv
      subst hbv
      obtain ⟨SV, hSV⟩ : ∃ SV, SV = rowArr 2 (slV na L.length nc ba L.length bc) := ⟨_, rfl⟩
      have VSV : Hid (rowArr 2 (slV na L.length nc ba L.length bc) = SV) := hSV.symm
      have HSs : Hid (SV.size = 2) := by show _ = _; rw [hSV]; rfl
      have HS1 : Hid (SV.all (·.oneCell') = true) := by show _ = _; rw [hSV]; simp [rowArr, slV, List.range_succ, Value.oneCell']
      have HSE : Hid (SV = #[.slice na L.length nc, .slice ba L.length bc]) := by show _ = _; rw [hSV]; rfl
      have HC : Hid (∀ j, j < 2 → wr.cell? ⟨bx, 0 + j, none⟩ = some (slV na L.length nc ba L.length bc j)) := fun j hj => by
        rw [cell_of_block HJ.out.box, Nat.zero_add]
        obtain rfl | rfl : j = 0 ∨ j = 1 := by omega
        · rfl
        · rfl
      clear hSV
      go_wp2_with (first
        | (refine wpList_load_v (by rfl) 34 _ rfl bx 0 2 _ SV VSV.out rfl _ HC.out Tryz.underlying34 rfl (by kernel_rfl) ?_)
        | (refine wpList_store_arr rfl 34 _ _ rfl W0 SV rfl rfl 34 _ HJ.out.res (by rw [HSs.out]; kernel_rfl) (by rw [HSs.out]; rfl) HS1.out ?_; intro w9 HC9 hf9))
      refine bodyPost_ret (v := .tuple #[.agg SV, .int .i64 0]) (results_cell_one rfl _ _ W0 34 SV (0, 0) _ rfl HC9.out Tryz.underlying34 rfl (by rw [HSs.out]; kernel_rfl) (.int .i64 0) rfl) rfl ?_
      have hf9 := hf9.out
      have hno := HJ.out.no
      have hbo := HJ.out.bo
      have hw0 := HW0.out
      rw [hw0] at hf9 hno hbo
      refine ⟨.slice na L.length nc, .slice ba L.length bc, F, by rw [HSE.out], hno.fr hf9 fun j hj hX => ?_, hbo.fr hf9 fun j hj hX => ?_, by rw [HMl.out, List.take_length], fun b hb => ⟨(HJ.out.bods b hb).1.fr hf9 fun j hj hX => ?_, (HJ.out.bods b hb).2⟩, HR.out.fr hf9 fun j hj hX => ?_, fr_new HF.out (hf9.mono fun j _ hj => by omega)⟩
      · have := (hno.at hj).1; omega
      · have := (hbo.at hj).1; omega
      · obtain ⟨_, c1⟩ := (HJ.out.bods b hb).1.kind hj
        have h0 := HJ.out.res
        rw [hw0] at h0
        rw [hX] at c1
        exact kinds_ne c1 h0 (by decide)
      · have := H.out.foot_lt hj; omega
end Go.Proofs.YtfgaohilpbocbaaGreatDoor
end

section
namespace Go.Proofs.YtfgaohilpbocbaaGreatDoor
open Go.ChangeShapes Go.WideShapes Go.ChangeAt Go.RowKit Go.Joins Go.Maps Go.Sort
set_option linter.unusedVariables false

theorem strOf_nm (i : Nat) : strOf [97 + i] = nmL i := by
  unfold strOf strOfNums nmL
  rfl
theorem nm_sl {w : World} {k : Nat} (hk : k < 8) : Sl (w.alloc (.cells #[.int .u8 (97 + (k : Int))] 5)) (some ⟨w.heap.size, 0, none⟩) 1 [97 + k] := by
  refine ⟨fun x hx => by rw [List.mem_singleton.1 hx]; omega, Nat.le_refl _, by unfold maxLen; omega, fun e => (by cases e), .inr ⟨_, 0, rfl, fun i hi => ?_⟩⟩
  have h0 : i = 0 := by simp at hi; omega
  subst h0
  rw [cell_of_block (heap_alloc_last w _)]
  simp
theorem nm_conv (w : World) {k : Nat} (hk : k < 8) : (convert 53 9 (.slice (some ⟨w.heap.size, 0, none⟩) 1 1)).run Tryz.prog (w.alloc (.cells #[.int .u8 (97 + (k : Int))] 5)) = .ok (.string (nmL k)) (w.alloc (.cells #[.int .u8 (97 + (k : Int))] 5)) := by
  have h := conv_sl _ _ _ _ (nm_sl (w := w) hk)
  rw [strOf_nm] at h
  exact h
theorem builtS_u8 (n : Int) : Tryz.prog.builtSlice 5 1 [(0, .int .u8 n)] = some #[.int .u8 n] := by kernel_rfl
theorem op_oneU {o : Oper} {a : Act} {w : World} {K : Act → World → Prop} {Q : Exit → Act → World → Prop} (x : Operand) (ho : o.op = .buildSlice 53 1 #[(0, x)]) (n : Int) (hx : a.eval x = .int .u8 n)
    (h : K (a.put o.dst (.slice (some ⟨w.heap.size, 0, none⟩) 1 1)) (w.alloc (.cells #[.int .u8 n] 5))) : o.wp Tryz.prog a w K Q := by
  have hf := builtS_u8 n
  unfold Program.builtSlice at hf
  cases hie : Tryz.prog.info? 5 with
  | none => simp [hie] at hf
  | some ie =>
    simp only [hie] at hf
    cases hz : ie.zero with
    | none => simp [hz] at hf
    | some z =>
      simp only [hz] at hf
      by_cases hc : 1 * ie.size > 2 ^ 24 ∨ 1 * ie.size = 0
      · rw [if_pos hc] at hf; cases hf
      · rw [if_neg hc] at hf
        refine wp_buildSlice 53 5 1 _ ho _ ie z Tryz.underlying53 hie hz (fun h' => hc (Or.inl h')) (fun h' => hc (Or.inr h')) ?_ h
        simp only [List.map_toArray, List.map_cons, List.map_nil, hx]
        exact hf
theorem Did.foot {w w1 w' : World} {BD : Nat} {S' : DSt} {g : Gh} (h : Did BD S' g w1 w') (hb : Below w.heap.size w w1) (hf : ∀ j, Foot BD g j → w.heap.size ≤ j) : ∃ g', Rep w' BD S' g' ∧ Below w.heap.size w w' ∧ ∀ j, Foot BD g' j → w.heap.size ≤ j := by
  obtain ⟨g', h1, h2, h3⟩ := h
  exact ⟨g', h1, hb.trans (h2.below hb.size fun j hj hX => by have := hf j hX; omega), fun j hj => (h3 j hj).elim (hf j) fun h => Nat.le_trans hb.size h⟩
set_option maxRecDepth 1000000 in
set_option maxHeartbeats 16000000 in
theorem scanLoads_walk (a : Option Addr) (c : Nat) (R : Rws) (w : World) (hR : Rs w.heap.size w a c R) (hm : Mx w) (ht : Tabs w) :
    Calls Tryz.prog 5 #[.slice a R.length c] w (TrueAnd w) := by
  have mixed : Tryz.prog.follows .mixedOrders = true := by kernel_rfl
  obtain ⟨PQ, hPQ⟩ : ∃ PQ, PQ = TrueAnd w := ⟨_, rfl⟩
  have HPQ : Hid (∀ w', Below w.heap.size w w' → PQ (.returned (.bool true)) w') := fun w' h => by rw [hPQ]; exact ⟨rfl, h⟩
  rw [← hPQ]
  have HAW : Hid (∀ w', Below w.heap.size w w' → Calls Tryz.prog 6 #[] w' (TrueAnd w')) := fun w' h => awake18_any loadNil lookNil w' (hm.below h) (ht.below h)
  have HR := Lib.hid hR
  have hrl := hR.lt
  have HBY := Lib.hid hR.byte
  clear hR hm ht hPQ
  by_cases h8 : 8 < R.length
  · have d8 : decide ((8 : Int) < (R.length : Int)) = true := by simp; omega
    go_enter Tryz.func5, Tryz.ntmps5
    go_upto_region 2 with (go_at_call 6; (with_reducible refine (HAW.out _ (Below.refl _ _)).mono ?_); rintro e w2 ⟨rfl, b2⟩; have HB2 := Lib.hid b2; clear b2)
    go_wp2_with (go_at_call 6; (with_reducible refine (HAW.out _ HB2.out).mono ?_); rintro e w3 ⟨rfl, b3⟩; have HB3 := Lib.hid (HB2.out.trans (b3.mono HB2.out.size)); clear b3)
    exact HPQ.out _ HB3.out
  have d8 : decide ((8 : Int) < (R.length : Int)) = false := by simp; omega
  go_enter Tryz.func5, Tryz.ntmps5
  go_upto_region 2 with (go_at_call 6; (with_reducible refine (HAW.out _ (Below.refl _ _)).mono ?_); rintro e w2 ⟨rfl, b2⟩; have HB2 := Lib.hid b2; clear b2 HAW)
  have hnew := new_good 1048576 (by omega) (by omega) w2
  obtain ⟨BD, hBD⟩ : ∃ BD, BD = w2.heap.size := ⟨_, rfl⟩
  rw [← hBD] at hnew
  have HBD : Hid (w.heap.size ≤ BD) := by show _ ≤ _; rw [hBD]; exact HB2.out.size
  clear hBD d8
  go_wp2_with fail
  (with_reducible refine hnew.mono ?_)
  rintro e w3 ⟨rfl, r3, b3, _⟩
  have HB3 := Lib.hid (HB2.out.trans (b3.mono HBD.out))
  have HR3 := Lib.hid r3
  have HL3 : Hid (LdS R 0 (newSt 1048576)) := LdS.new R
  have HF3 : Hid (∀ j, Foot BD newGh j → w.heap.size ≤ j) := fun j hj => by rw [newFoot hj]; exact HBD.out
  have HE3 : Hid (∀ x ∈ R.take 0, x.length ≤ 2000) := fun x hx => by simp at hx
  clear hnew r3 b3 HB2
  go_wp2_with fail
  go_loopw [26] (fun i wr => ∃ (k : Nat) (S : DSt) (g : Gh), k ≤ R.length ∧ i = .int .i64 k ∧ Hid (Rep wr BD S g) ∧ Hid (LdS R k S) ∧ Hid (Below w.heap.size w wr) ∧ Hid (∀ j, Foot BD g j → w.heap.size ≤ j) ∧ Hid (∀ x ∈ R.take k, x.length ≤ 2000)) (fun i _ => R.length - (intOf i).toNat)
  case atStart => exact ⟨0, _, _, by omega, rfl, HR3, HL3, HB3, HF3, HE3⟩
  case round =>
    obtain ⟨k, S, g, hk, rfl, HRp, HLd, HB, HFt, HFe⟩ := hrel
    clear HR3 HL3 HB3 HF3 HE3
    by_cases hlt : k < R.length
    · have d : decide ((k : Int) < (R.length : Int)) = true := by simp; omega
      obtain ⟨rb, ro, rfl, hrb, hrr⟩ := HR.out.some hlt
      obtain ⟨ai, ci, hck, hrw⟩ := hrr k hlt
      have hck1 : ∀ w', Below w.heap.size w w' → w'.cell? ⟨rb, ro + k, none⟩ = some (.slice ai R[k].length ci) := fun w' hb => (hb.cell (p := ⟨rb, ro + k, none⟩) hrb).trans hck
      have HSL := Lib.hid hrw.sl
      have hml := hrw.sl.lt
      have HCK := Lib.hid hck1
      have c0 := hck1 wr HB.out
      clear hck hrr hrw hck1
      by_cases h2 : 2000 < R[k].length
      · have d2 : decide ((2000 : Int) < (R[k].length : Int)) = true := by simp; omega
        go_wp2_with fail
        exact HPQ.out _ HB.out
      · have d2 : decide ((2000 : Int) < (R[k].length : Int)) = false := by simp; omega
        have hk8 : k < 8 := by omega
        have dn : IntKind.u8.wrap (97 + (k : Int)) = 97 + (k : Int) := by simp [IntKind.wrap, IntKind.bits, IntKind.signed]; omega
        have hcv := nm_conv wr hk8
        go_upto_region 10 with fail
        clear hcv
        have hb4 : Below wr.heap.size wr (wr.alloc (.cells #[.int .u8 (97 + (k : Int))] 5)) := (Below.refl _ _).alloc (Nat.le_refl _) _
        have hcr := create_any (nmL k) (HRp.out.later hb4) (by show 1 ≤ maxLen; unfold maxLen; omega) (by rw [HLd.out.steps]; omega)
        have hlc := HLd.out.create hk8 hk HFe.out
        have HB4 := Lib.hid (HB.out.trans (hb4.mono HB.out.size))
        have HM := Lib.hid hlc.2
        generalize wr.alloc (.cells #[.int .u8 (97 + (k : Int))] 5) = w4 at *
        clear hb4 HB HLd HRp c0 hlc
        go_wp2_with fail
        (with_reducible refine hcr.mono ?_)
        rintro e w5 ⟨rfl, hd⟩
        obtain ⟨g1, r5, b5, f5⟩ := hd.foot HB4.out HFt.out
        have hap := append_any (nmL k) ai ci R[k] r5 (by show 1 ≤ maxLen; unfold maxLen; omega) (HSL.out.below b5) (fun p hp hne hX => by have := HSL.out.blk p hp hne; have := f5 _ hX; omega) (fun i => by have := HM.out.few i; omega)
        have hla := HM.out.append hk8 hlt HFe.out (by omega)
        have c1 := HCK.out w5 b5
        have HB5 := Lib.hid b5
        have HF5 := Lib.hid f5
        have HLa := Lib.hid hla.2
        clear hcr hd r5 b5 f5 hla HB4 HM HFt
        go_wp2_with fail
        (with_reducible refine hap.mono ?_)
        rintro e w6 ⟨rfl, hd⟩
        obtain ⟨g2, r6, b6, f6⟩ := hd.foot HB5.out HF5.out
        have HB6 := Lib.hid b6
        have HF6 := Lib.hid f6
        have HR6 := Lib.hid r6
        have HFe6 : Hid (∀ x ∈ R.take (k + 1), x.length ≤ 2000) := fun x hx => by
          rw [List.take_succ_eq_append_getElem hlt] at hx
          rcases List.mem_append.1 hx with hx | hx
          · exact HFe.out x hx
          · rw [List.mem_singleton.1 hx]; omega
        clear hap hd r6 b6 f6 HB5 HF5 c1 HFe
        go_wp2_with fail
        go_roundw
        case rel => exact ⟨k + 1, _, g2, by omega, by go_num, HR6, HLa, HB6, HF6, HFe6⟩
        case measure => simp [intOf]; omega
    · have hkL : k = R.length := by omega
      subst hkL
      have d : decide ((R.length : Int) < (R.length : Int)) = false := by simp
      have hL8 : R.length ≤ 8 := by omega
      obtain ⟨ρ, hρ⟩ : ∃ ρ, ρ = wrap64 (S.d.cap - S.d.used) := ⟨_, rfl⟩
      obtain ⟨ω, hω⟩ : ∃ ω : Int, ω = (((g.on S.d).wl : Nat) : Int) := ⟨_, rfl⟩
      have HRO : Hid (∀ w', Rep w' BD S g → Calls Tryz.prog 25 #[.pointer (some ⟨BD, 0, none⟩)] w' fun e w2 => e = .returned (.int .i64 ρ) ∧ Below w'.heap.size w' w2) := fun w' h => by
        rw [hρ]
        exact (room_rep h).mono fun e w2 h => ⟨h.1, h.2.1⟩
      have HWA : Hid (∀ w', Rep w' BD S g → Calls Tryz.prog 26 #[.pointer (some ⟨BD, 0, none⟩)] w' fun e w2 => e = .returned (.int .i64 ω) ∧ w' = w2) := fun w' h => by
        rw [hω]
        exact waits_any (x := g.on S.d) h.at'
      have HLO : Hid (∀ w', Rep w' BD S g → Calls Tryz.prog 27 #[.pointer (some ⟨BD, 0, none⟩)] w' (LoadPost BD S g R w')) := fun w' h => load_any h HLd.out hL8 HBY.out
      clear hρ hω HLd HFe
      go_upto_region 14 with (first
        | (go_at_call 25; (with_reducible refine (HRO.out _ HRp.out).mono ?_); rintro e w7 ⟨rfl, b7⟩; have HR7 := Lib.hid (HRp.out.later b7); have HB7 := Lib.hid (HB.out.trans (b7.mono HB.out.size)); clear b7)
        | (go_at_call 26; (with_reducible refine (HWA.out _ HR7.out).mono ?_); rintro e w8 ⟨rfl, rfl⟩))
      have hlo : Calls Tryz.prog 27 #[.pointer (some ⟨BD, 0, none⟩)] w7 fun e w9 => ∃ (na : Option Addr) (nc : Nat) (ba : Option Addr) (bc : Nat) (F : List Bw) (SV : Array Value), e = .returned (.tuple #[.agg SV, .int .i64 0]) ∧ SV = #[.slice na R.length nc, .slice ba R.length bc] ∧
          Own1 9 0 w9 (.slice na R.length nc) (NSv R.length) ∧ Own1 53 0 w9 (.slice ba R.length bc) (F.map (·.v)) ∧ F.map (·.l) = R ∧ (∀ b ∈ F, OwnB w9 b.v b.l ∧ IsByte b.l) ∧ Rep w9 BD S g ∧ Below w.heap.size w w9 := by
        refine (HLO.out _ HR7.out).mono ?_
        rintro e w9 ⟨nv, bv, F, rfl, hno, hbo, hfl, hbods, r9, f9⟩
        have hlF : F.length = R.length := by rw [← hfl, List.length_map]
        obtain ⟨na, nc, rfl, _, _⟩ := hno.slice
        obtain ⟨ba, bc, rfl, _, _⟩ := hbo.slice
        rw [nsv_len] at hno ⊢
        rw [List.length_map, hlF] at hbo ⊢
        exact ⟨na, nc, ba, bc, F, _, rfl, rfl, (row_new hno).1, (row_new hbo).1, hfl, hbods, r9, HB7.out.trans (f9.below HB7.out.size fun j hj hX => by have := HBD.out; omega)⟩
      clear HRp HB HLO HR7 HB7
      go_upto_region 15 with (first
        | (go_at_call 27; (with_reducible refine hlo.mono ?_); rintro e w9 ⟨na, nc, ba, bc, F, SV, rfl, hsv, hno, hbo, hfl, hbods, r9, b9⟩; have HSV := Lib.hid hsv; have HS2 : Hid (SV.size = 2) := (by show _ = _; rw [hsv]; rfl); have HS3 : Hid (SV.all (·.oneCell') = true) := (by show _ = _; rw [hsv]; simp [Value.oneCell']); have HNO := Lib.hid hno; have HBO := Lib.hid hbo; have HFL := Lib.hid hfl; have HBS := Lib.hid hbods; have HR9 := Lib.hid r9; have HB9 := Lib.hid b9; clear hsv hno hbo hfl hbods r9 b9 hlo)
        | (refine wpList_store_arr rfl 34 _ _ rfl w9.heap.size SV rfl rfl 34 _ (heap_alloc_last w9 _) (by rw [HS2.out]; kernel_rfl) (by rw [HS2.out]; rfl) HS3.out ?_; intro w10 HC10 hf10))
      have hb910 : Below w9.heap.size w9 w10 := by
        have h0 : ∀ o, Below w9.heap.size w9 (w9.alloc o) := fun o => (Below.refl w9.heap.size w9).alloc (Nat.le_refl _) o
        exact (h0 _).trans (hf10.out.below (h0 _).size fun k hk e => by omega)
      have hF0 : Fr (fun _ => False) w9 w10 := Fr.of_below hb910
      have HN10 := Lib.hid (HNO.out.fr hF0 fun _ _ h => h)
      have HO10 := Lib.hid (HBO.out.fr hF0 fun _ _ h => h)
      have HS10 : Hid (∀ b ∈ F, OwnB w10 b.v b.l ∧ IsByte b.l) := fun b hb => ⟨(HBS.out b hb).1.fr hF0 fun _ _ h => h, (HBS.out b hb).2⟩
      have HR10 := Lib.hid (HR9.out.later hb910)
      have HB10 := Lib.hid (HB9.out.trans (hb910.mono HB9.out.size))
      have HX10 : Hid (w10.heap[w9.heap.size]? = some (.cells #[.slice na R.length nc, .slice ba R.length bc] 34 (0, 0))) := by rw [← HSV.out]; exact HC10.out
      obtain ⟨sb, hsb⟩ : ∃ sb, sb = w9.heap.size := ⟨_, rfl⟩
      rw [← hsb] at HX10 ⊢
      have c0 : w10.cell? ⟨sb, 0, none⟩ = some (.slice na R.length nc) := (cell_of_block HX10.out 0).trans rfl
      have c1 : w10.cell? ⟨sb, 1, none⟩ = some (.slice ba R.length bc) := (cell_of_block HX10.out 1).trans rfl
      clear hb910 hF0 HC10 hf10 HS2 HS3 HSV HNO HBO HBS HR9 HB9 hsb
      go_wp2_with (first
        | (go_at_call 25; (with_reducible refine (HRO.out _ HR10.out).mono ?_); rintro e w11 ⟨rfl, b11⟩; have HR11 := Lib.hid (HR10.out.later b11); have HB11 := Lib.hid b11; clear b11)
        | (go_at_call 26; (with_reducible refine (HWA.out _ HR11.out).mono ?_); rintro e w12 ⟨rfl, rfl⟩))
      have hF0 : Fr (fun _ => False) w10 w11 := Fr.of_below HB11.out
      have HN11 := Lib.hid (HN10.out.fr hF0 fun _ _ h => h)
      have HO11 := Lib.hid (HO10.out.fr hF0 fun _ _ h => h)
      have HS11 : Hid (∀ b ∈ F, OwnB w11 b.v b.l ∧ IsByte b.l) := fun b hb => ⟨(HS10.out b hb).1.fr hF0 fun _ _ h => h, (HS10.out b hb).2⟩
      have HX11 : Hid (w11.heap[sb]? = some (.cells #[.slice na R.length nc, .slice ba R.length bc] 34 (0, 0))) := (HB11.out.block _ (blk_lt HX10.out)).trans HX10.out
      have HBW11 := Lib.hid (HB10.out.trans (HB11.out.mono HB10.out.size))
      have HB0 : Hid (Below w11.heap.size w11 w11) := Below.refl _ _
      clear hF0 HN10 HO10 HS10 HX10 HB10 HB11 HRO HWA HR10 HR11 HFt c0 c1
      go_loopw [92] (fun i wr => ∃ k : Nat, k ≤ R.length ∧ i = .int .i64 k ∧ Hid (Below w11.heap.size w11 wr)) (fun i _ => R.length - (intOf i).toNat)
      case atStart => exact ⟨0, by omega, rfl, HB0⟩
      case round =>
        obtain ⟨k, hk, rfl, HB⟩ := hrel
        clear HB0
        by_cases hlt : k < R.length
        · have d : decide ((k : Int) < (R.length : Int)) = true := by simp; omega
          obtain ⟨wd, hwd⟩ : ∃ wd, wd = wr.drew := ⟨_, rfl⟩
          have HBd : Hid (Below w11.heap.size w11 wd) := by rw [hwd]; exact HB.out.drew
          have hlF : F.length = R.length := by have := congrArg List.length HFL.out; simpa using this
          have hFd : Fr (fun _ => False) w11 wd := Fr.of_below HBd.out
          obtain ⟨gn, rfl, hgn, hcn⟩ := names_cell (HN11.out.fr hFd fun _ _ h => h) hlt
          have ho := HO11.out.fr hFd fun _ _ h => h
          have elen : R.length = (F.map (·.v)).length := by rw [List.length_map, hlF]
          obtain ⟨gr, hba, hgr, hcr⟩ := Own1.cell (by rw [elen] at ho; exact ho) (i := k) (by rw [List.length_map]; omega)
          subst hba
          have hFk : F[k]'(by omega) ∈ F := List.getElem_mem _
          have hRk : (F[k]'(by omega)).l = R[k] := by
            have h1 : (F.map (·.l))[k]? = R[k]? := by rw [HFL.out]
            rw [List.getElem?_map, List.getElem?_eq_getElem (by omega), List.getElem?_eq_getElem hlt] at h1
            exact Option.some.inj h1
          obtain ⟨hob, hbb⟩ := HS11.out _ hFk
          rw [hRk] at hob hbb
          have hvk : (F.map (·.v))[k]'(by rw [List.length_map]; omega) = (F[k]'(by omega)).v := by simp
          rw [hvk] at hcr
          obtain ⟨va, vc, hv, _, _⟩ := own_shape hob
          rw [hv] at hob hcr
          have hsl1 : Sl wd va vc R[k] := by
            obtain ⟨_, _, e, h, _⟩ := OwnB.sl hob hbb
            cases e
            exact h.below HBd.out
          obtain ⟨rb, ro, rfl, hrb, hrr⟩ := HR.out.some hlt
          obtain ⟨ai, ci, hck, hrw⟩ := hrr k hlt
          have hBwd : Below w.heap.size w wd := HBW11.out.trans (HBd.out.mono HBW11.out.size)
          have hsl2 : Sl wd ai ci R[k] := hrw.sl.below hBwd
          have hck2 := (hBwd.cell (p := ⟨rb, ro + k, none⟩) hrb).trans hck
          have hx : wd.heap[sb]? = some (.cells #[.slice (some ⟨gn, 0, none⟩) R.length nc, .slice (some ⟨gr, 0, none⟩) R.length bc] 34 (0, 0)) := (HBd.out.block _ (blk_lt HX11.out)).trans HX11.out
          have hsb := blk_lt hx
          have c0 := (cell_of_block hx 0)
          have c1 := (cell_of_block hx 1)
          simp only [List.getElem?_toArray, List.getElem?_cons_zero, List.getElem?_cons_succ] at c0 c1
          have k0 : ∀ u : KeepW wd (fun _ => False), u.v.cell? ⟨sb, 0, none⟩ = some (.slice (some ⟨gn, 0, none⟩) R.length nc) := fun u => (u.cell hsb (fun h => h)).trans c0
          have k1 : ∀ u : KeepW wd (fun _ => False), u.v.cell? ⟨gn, k, none⟩ = some (.string (nmL k)) := fun u => (u.cell hgn (fun h => h)).trans hcn
          have HC := Lib.hid (And.intro c1 (And.intro hcr hck2))
          have HSL := Lib.hid (And.intro hsl1 hsl2)
          have HLT := Lib.hid (And.intro hsb (And.intro hgr (Nat.lt_of_lt_of_le hrb hBwd.size)))
          have hk8 : k < 8 := by omega
          have dn : IntKind.u8.wrap (97 + (k : Int)) = 97 + (k : Int) := by simp [IntKind.wrap, IntKind.bits, IntKind.signed]; omega
          have i1 : (0 : Int) ≤ (k : Int) := by omega
          have i2 : (k : Int) < (R.length : Int) := by omega
          clear hFd ho elen hFk hRk hob hbb hvk hsl1 hsl2 hck2 hx hsb c0 c1 hcn hcr hck hrr hrw hBwd hgn hgr hv
          go_upto_region 20 with fail
          refine growK_begin 24 (fun w' => ∃ u : KeepW wd (fun _ => False), w' = u.v) (by kernel_rfl) ?_
          rw [← hwd]
          clear hwd
          refine growK_take (by kernel_rfl) [0, 1, 2, 3, 4, 5, 6, 7] 17 _ _ (by kernel_rfl) _ (keep_class (Fr.refl _ _)) ?_
          simp only [opsAt, List.getElem?_toArray, List.getElem?_cons_succ, List.getElem?_cons_zero]
          repeat (first | go_big_quiet_step (fail) | quiet_step (fail))
          refine wpQuiet_nil ?_
          clear k0 k1
          refine growK_one 8 (by kernel_rfl) (fun K hK => ?_)
          simp only [stepOf, List.getElem?_toArray, List.getElem?_cons_succ, List.getElem?_cons_zero]
          rw [if_pos (by rfl)]
          refine op_oneU _ rfl (97 + (k : Int)) rfl ?_
          have hb12 : Below wd.heap.size wd (wd.alloc (.cells #[.int .u8 (97 + (k : Int))] 5)) := (Below.refl _ _).alloc (Nat.le_refl _) _
          have hs12 := nm_sl (w := wd) hk8
          obtain ⟨bn, hbn⟩ : ∃ bn, bn = wd.heap.size := ⟨_, rfl⟩
          rw [← hbn] at hs12 ⊢
          generalize wd.alloc (.cells #[.int .u8 (97 + (k : Int))] 5) = w12 at *
          refine hK.out _ _ (keep_class (Fr.of_below hb12)) ?_
          clear hK K hbn
          have hcv : (convert 53 9 (.slice (some ⟨bn, 0, none⟩) 1 1)).run Tryz.prog w12 = .ok (.string (nmL k)) w12 := by
            have h := conv_sl _ _ _ _ hs12
            rw [strOf_nm] at h
            exact h
          refine growK_one 9 (by kernel_rfl) (fun K hK => ?_)
          simp only [stepOf, List.getElem?_toArray, List.getElem?_cons_succ, List.getElem?_cons_zero]
          rw [if_pos (by rfl)]
          go_simp
          refine hK.out _ _ (keep_class (Fr.of_below hb12)) ?_
          clear hK K hcv hs12
          obtain ⟨SK, hSK⟩ : ∃ SK, SK = strOf R[k] := ⟨_, rfl⟩
          have kc1 : ∀ u : KeepW wd (fun _ => False), (convert 53 9 (.slice va R[k].length vc)).run Tryz.prog u.v = .ok (.string SK) u.v := fun u => by
            rw [hSK]; exact conv_sl _ _ _ _ (HSL.out.1.fr u.h fun _ _ _ h => h)
          have kc2 : ∀ u : KeepW wd (fun _ => False), (convert 53 9 (.slice ai R[k].length ci)).run Tryz.prog u.v = .ok (.string SK) u.v := fun u => by
            rw [hSK]; exact conv_sl _ _ _ _ (HSL.out.2.fr u.h fun _ _ _ h => h)
          have k1 : ∀ u : KeepW wd (fun _ => False), u.v.cell? ⟨sb, 1, none⟩ = some (.slice (some ⟨gr, 0, none⟩) R.length bc) := fun u => (u.cell HLT.out.1 (fun h => h)).trans HC.out.1
          have k2 : ∀ u : KeepW wd (fun _ => False), u.v.cell? ⟨gr, k, none⟩ = some (.slice va R[k].length vc) := fun u => (u.cell HLT.out.2.1 (fun h => h)).trans HC.out.2.1
          have k3 : ∀ u : KeepW wd (fun _ => False), u.v.cell? ⟨rb, ro + k, none⟩ = some (.slice ai R[k].length ci) := fun u => (u.cell HLT.out.2.2 (fun h => h)).trans HC.out.2.2
          have HBW := Lib.hid (HBd.out.trans (hb12.mono HBd.out.size))
          clear hSK HC HSL HLT HBd
          refine growK_take (by kernel_rfl) [10, 11, 12, 13, 14, 15, 16, 17, 18, 19, 20, 21, 22, 23] 1 _ _ (by kernel_rfl) _ (keep_class (Fr.of_below hb12)) ?_
          simp only [opsAt, List.getElem?_toArray, List.getElem?_cons_succ, List.getElem?_cons_zero]
          repeat (first | go_big_quiet_step (fail) | quiet_step (fail))
          refine wpQuiet_nil ?_
          clear k1 k2 k3 kc1 kc2
          refine growK_last (by kernel_rfl) (by kernel_rfl) (fun K hK => ?_)
          simp only [stepOf, List.getElem?_toArray, List.getElem?_cons_succ, List.getElem?_cons_zero]
          go_simp
          refine hK.out _ _ ?_
          clear hK K
          go_wp2_with fail
          go_roundw
          case rel => exact ⟨k + 1, by omega, by go_num, HBW⟩
          case measure => simp [intOf]; omega
        · have hkL : k = R.length := by omega
          subst hkL
          have d : decide ((R.length : Int) < (R.length : Int)) = false := by simp
          go_wp2_with fail
          exact HPQ.out _ (HBW11.out.trans (HB.out.mono HBW11.out.size))
end Go.Proofs.YtfgaohilpbocbaaGreatDoor
end

section
namespace Go.Proofs.YtfgaohilpbocbaaGreatDoor
open Go.ChangeShapes Go.WideShapes Go.ChangeAt Go.RowKit
set_option linter.unusedVariables false

theorem ownD : ownKnob Tryz.prog.godebug = none := by kernel_rfl
theorem laidOutD : laidOutB Tryz.prog = true := by kernel_rfl
theorem cellsU32 : Tryz.prog.cellsOf 49 = 1 := by kernel_rfl
/-- An array of numbers of one cell each, opened: each cell holds its number. -/
theorem array_cells32 {H : Type} {enc : TypeId × Value → H} {w : World} {base fuel n : Nat} {spare : Nat → Bool} {held : Bool} {t : TypeId} {cs : List Value} {zs : List Int} {ps : List MemPlace}
    (ht : Tryz.prog.underlying t = some (.array n 49)) (hd : DataW.trod enc Tryz.prog w base spare held fuel t cs = some (.agg (zs.map fun z => .lit (.int .u32 z)), ps)) :
    zs.length = n ∧ ∀ i (h : i < zs.length), cs[i]? = some (.int .u32 zs[i]) := by
  obtain ⟨xs, m1, _, hx1, hcl, hn3, hel⟩ := DataW.trod_array ht hd
  simp only [Prod.mk.injEq, DataW.agg.injEq] at hx1
  have hl : zs.length = xs.length := by have := congrArg List.length hx1.1; simpa using this
  refine ⟨hl.trans hn3, fun i hi => ?_⟩
  have hix : i < xs.length := by omega
  have h0 := hel i (by omega)
  rw [cellsU32, Nat.mul_one, List.getElem?_eq_getElem hix] at h0
  obtain ⟨k, e1, e2, _⟩ := DataW.trod_int Tryz.underlying49 h0
  have hk : zs[i] = k := by
    have := congrArg (fun l => l[i]?) hx1.1
    simp [hi, hix, e2] at this
    exact this
  rw [hk]
  have : (cs.drop i)[0]? = some (.int .u32 k) := by
    cases h : cs.drop i with
    | nil => rw [h] at e1; simp at e1
    | cons c r => rw [h] at e1; simp at e1; simp [e1]
  simpa using this
theorem gStart : Tryz.prog.globalNamed "geyser/sum.start" = some 0 := by kernel_rfl
theorem tStart : (Tryz.prog.globals[0]?).map (·.type) = some 196 := by kernel_rfl
theorem gRounds : Tryz.prog.globalNamed "geyser/sum.rounds" = some 1 := by kernel_rfl
theorem tRounds : (Tryz.prog.globals[1]?).map (·.type) = some 231 := by kernel_rfl
def startL : List Int := [1779033703, 3144134277, 1013904242, 2773480762, 1359893119, 2600822924, 528734635, 1541459225]
def roundsL : List Int := Sha.kL.map fun k : Nat => (k : Int)
theorem rounds_get : ∀ k, k < 64 → roundsL[k]? = some ((Sha.kN k : Nat) : Int) := by decide +kernel
theorem start_get : ∀ k, k < 8 → startL[k]? = some ((Sha.start8.get k : Nat) : Int) := by decide +kernel
theorem array_get32 {H : Type} {enc : TypeId × Value → H} {w : World} {base fuel n : Nat} {spare : Nat → Bool} {held : Bool} {t : TypeId} {cs : List Value} {zs : List Int} {ps : List MemPlace}
    (ht : Tryz.prog.underlying t = some (.array n 49)) (hd : DataW.trod enc Tryz.prog w base spare held fuel t cs = some (.agg (zs.map fun z => .lit (.int .u32 z)), ps)) (k : Nat) (z : Int) (hz : zs[k]? = some z) :
    cs[k]? = some (.int .u32 z) := by
  have hk : k < zs.length := by
    rcases Nat.lt_or_ge k zs.length with h | h
    · exact h
    · rw [List.getElem?_eq_none h] at hz; cases hz
  have := (array_cells32 ht hd).2 k hk
  rw [List.getElem?_eq_getElem hk] at hz
  rw [← Option.some.inj hz]
  exact this
/-- What the condition gives the walks: the two tables. -/
theorem tabs_of {W : World} (h : laidMetH Tryz.prog [("geyser/sum.start", Rows.laid_geyser_sum_start), ("geyser/sum.rounds", Rows.laid_geyser_sum_rounds)] W) : Tabs W := by
  rw [MakeChecks.laidMetH_plain _ _ _ (by kernel_rfl)] at h
  obtain ⟨ps, ⟨g1, t1, cs1, f1, p1, q1, hg1, ht1, hv1, hd1, ⟨g2, t2, cs2, f2, p2, q2, hg2, ht2, hv2, hd2, _⟩, _⟩, _, _⟩ := h
  obtain rfl := Option.some.inj (gStart.symm.trans hg1)
  obtain rfl := Option.some.inj (tStart.symm.trans ht1)
  obtain rfl := Option.some.inj (gRounds.symm.trans hg2)
  obtain rfl := Option.some.inj (tRounds.symm.trans ht2)
  refine ⟨fun k hk => ?_, ?_⟩
  · rw [World.var?_cell hg2 hv2 k]
    have := array_get32 (zs := roundsL) Tryz.underlying231 hd2 k _ (rounds_get k hk)
    simpa using this
  · have hcs : cs1 = Sha.rowArr 8 (Sha.stV Sha.start8) := by
      have hl := (DataW.trod_array Tryz.underlying196 hd1)
      obtain ⟨xs, m1, _, _, hcl, _, _⟩ := hl
      rw [show Tryz.prog.cellsOf 196 = 8 by kernel_rfl] at hcl
      apply Array.ext_getElem?
      intro i
      by_cases hi : i < 8
      · have := array_get32 (zs := startL) Tryz.underlying196 hd1 i _ (start_get i hi)
        rw [← Array.getElem?_toList, this]
        simp [Sha.rowArr, hi, Sha.stV]
      · have h8 : cs1.size = 8 := by simpa using hcl
        rw [Array.getElem?_eq_none (by omega), Array.getElem?_eq_none (by rw [Sha.rowArr_size]; omega)]
    unfold World.var? at hv1
    rw [hg1] at hv1
    simp only [Option.bind_some] at hv1
    split at hv1
    · rename_i cs t fr heq
      have : cs = cs1 := Option.some.inj hv1
      exact ⟨t, fr, by rw [heq, this, hcs]⟩
    · cases hv1
/-- The door's own heap meets the condition. -/
theorem door_met2 (os : Os) (args : Array Value) : laidMetH Tryz.prog [("geyser/sum.start", Rows.laid_geyser_sum_start), ("geyser/sum.rounds", Rows.laid_geyser_sum_rounds)] ((World.doorLaid Tryz.prog 600 os).forCall (fun _ _ => 0) ⟨#[], args, []⟩).memory :=
  laidMetH_of_parts3 (fuel := 8) (laidMet_of_run' 8 (by kernel_rfl) (by kernel_rfl)) (by kernel_rfl) (by kernel_rfl)
end Go.Proofs.YtfgaohilpbocbaaGreatDoor
end
