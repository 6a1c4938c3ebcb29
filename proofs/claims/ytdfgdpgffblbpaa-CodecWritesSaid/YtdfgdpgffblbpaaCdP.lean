/-
  Layer 13's law CodecWrites: what is put, told; bytes appended to a row of one's own.
-/
import Derived.Test.YtdfgdpgffblbpaaCdA
import Derived.Test.YtdfgdpgffblbpaaCdW
import Derived.Test.YtdfgdpgffblbpaaMat
import Derived.Maps.AppendAt
namespace Go.Proofs.Ytdfgdpgffblbpaa
open Go.ChangeShapes Go.WideShapes Go.ChangeAt Go.RowKit Go.Joins
set_option linter.unusedVariables false

/-- What an item puts. -/
def putI (x : Itm) : Option (List Nat) := if x.k < 3 then putN x.v x.n else if x.k = 3 then putT x.b else some x.b
def catI : List Itm → Option (List Nat)
  | [] => some []
  | x :: L => addO (putI x) (catI L)
/-- What has been put. -/
def outOf (L : List Itm) : Option (List Nat) := L.foldl (fun s x => addO s (putI x)) (some [])
theorem addO_assoc (a b c : Option (List Nat)) : addO (addO a b) c = addO a (addO b c) := by
  cases a <;> cases b <;> cases c <;> simp [addO]
theorem addO_nil (a : Option (List Nat)) : addO a (some []) = a := by cases a <;> simp [addO]
theorem nil_addO (a : Option (List Nat)) : addO (some []) a = a := by cases a <;> simp [addO]
theorem fold_cat : ∀ (L : List Itm) (s : Option (List Nat)), L.foldl (fun s x => addO s (putI x)) s = addO s (catI L)
  | [], s => (addO_nil s).symm
  | x :: L, s => by rw [List.foldl_cons, fold_cat L, addO_assoc]; rfl
theorem outOf_cat (L : List Itm) : outOf L = catI L := by unfold outOf; rw [fold_cat, nil_addO]
theorem outOf_next {L : List Itm} {k : Nat} (h : k < L.length) : outOf (L.take (k + 1)) = addO (outOf (L.take k)) (putI L[k]) := by
  unfold outOf
  rw [List.take_succ_eq_append_getElem h, List.foldl_append]
  rfl
/-- What is left to be got. -/
theorem cat_drop {L : List Itm} {k : Nat} (h : k < L.length) : catI (L.drop k) = addO (putI L[k]) (catI (L.drop (k + 1))) := by
  rw [List.drop_eq_getElem_cons h]; rfl
theorem addO_some {a b : Option (List Nat)} {l : List Nat} (h : addO a b = some l) : ∃ x r, a = some x ∧ b = some r ∧ l = x ++ r := by
  cases a with
  | none => simp [addO] at h
  | some x =>
    cases b with
    | none => simp [addO] at h
    | some r => exact ⟨x, r, rfl, rfl, by simpa [addO] using h.symm⟩
theorem outOf_none {L : List Itm} {k : Nat} (h : outOf (L.take k) = none) (hk : k ≤ L.length) : outOf L = none := by
  have e : L = L.take k ++ L.drop k := (List.take_append_drop k L).symm
  have : outOf L = addO (outOf (L.take k)) (catI (L.drop k)) := by
    conv => lhs; rw [e]
    unfold outOf
    rw [List.foldl_append, fold_cat]
  rw [this, h]
  rfl

/-- A row of bytes that a call makes by append. -/
def OwnB (w : World) (v : Value) (l : List Nat) : Prop := w.ownsRow 0 5 1 v l.length (l.map byteV)
theorem OwnB.nil (w : World) : OwnB w (.slice none 0 0) [] := World.ownsRow_nil _ _ _ _
theorem info8C : (Try.prog.info? 5).map (fun i => (i.zero, i.size, i.bytes)) = some (some (.int .u8 0), 1, 1) := by kernel_rfl
theorem run_addB (w : World) (ty : TypeId) {v : Value} {l : List Nat} (ho : OwnB w v l) (ga : Option Addr) (gc : Nat) (m : List Nat) (hs : Sl w ga gc m) (hn : l.length + m.length ≤ 1000000) :
    ∃ v' w', (Builtin.append_ #[28, 28] ty #[v, .slice ga m.length gc]).run Try.prog w = .ok v' w' ∧ OwnB w' v' (l ++ m) ∧ w.grownBy w' v.ownBlock ∧ (v'.ownBlock = v.ownBlock ∨ v'.ownBlock = some w.heap.size) := by
  obtain ⟨i0, hi, hz0, hz1, hz2⟩ := info_parts info8C
  by_cases hga : ga = none
  · subst hga
    obtain ⟨rfl, rfl⟩ := hs.none rfl
    refine ⟨v, w, ?_, by rw [List.append_nil]; exact ho, ⟨rfl, rfl, rfl, Nat.le_refl _, fun _ _ _ => rfl⟩, .inl rfl⟩
    rcases ho.2 with ⟨rfl, _⟩ | ⟨gg, cap, cur, rfl, -, -, hcap, -, -, -⟩
    · simp [Builtin.append_, run_underlying Try.underlying28, sizeOf, typeInfo, hi, Builtin.lenOf, Builtin.firstCells]
    · simp [Builtin.append_, run_underlying Try.underlying28, sizeOf, typeInfo, hi, Builtin.lenOf, Builtin.firstCells, storeCells, hcap]
  · obtain ⟨ad, rfl⟩ := Option.ne_none_iff_exists'.1 hga
    have hnews : ∀ j u, (m.map byteV)[j]? = some u → w.cell? (ad.add j) = some u := fun j u hj => by
      rw [List.getElem?_map] at hj
      obtain ⟨x, hx, rfl⟩ := Option.map_eq_some_iff.1 hj
      obtain ⟨hjl, rfl⟩ := List.getElem?_eq_some_iff.1 hx
      obtain ⟨b, off, e, hb⟩ := hs.some (k := j) hjl
      cases e
      have := hb j hjl
      by_cases j0 : j = 0
      · subst j0; simpa [Addr.add, byteV] using this
      · simpa [Addr.add, j0, byteV] using this
    obtain ⟨v', w', hr, h2, h3, h4, h5⟩ := run_append_own_at (P := Try.prog) w 0 28 ty 5 i0 (.int .u8 0) 1 1 Try.underlying28 hi hz0 hz1 hz2 rfl (by decide) v l.length (l.map byteV) ho ad m.length gc (m.map byteV) (by simp) hnews (fun u hu => by obtain ⟨n, _, rfl⟩ := List.mem_map.1 hu; rfl) (by unfold maxLen; omega) (by omega) (Nat.zero_le _)
    refine ⟨v', w', hr, ?_, h3, h5⟩
    unfold OwnB
    rw [List.length_append, List.map_append]
    exact h2
theorem wpList_addB {ops : Array Oper} {rest : List Oper} {o : Oper} {a : Act} {Q : Exit → Act → World → Prop} (w : World) (hgd : o.guard = none) (s x : Operand)
    (ho : o.op = .call { callee := .builtin .append, args := #[s, x], argTypes := #[28, 28] })
    (v : Value) (l : List Nat) (hsv : a.eval s = v) (hown : OwnB w v l) (ga : Option Addr) (gc q : Nat) (m : List Nat) (hxv : a.eval x = .slice ga q gc) (hq : m.length = q) (hs : Sl w ga gc m) (hn : l.length + m.length ≤ 1000000)
    (h : ∀ v' w', Hid (OwnB w' v' (l ++ m)) → Hid (w.grownBy w' v.ownBlock) → Hid (v'.ownBlock = v.ownBlock ∨ v'.ownBlock = some w.heap.size) → wpList Try.prog ops Q rest (a.put o.dst v') w') :
    wpList Try.prog ops Q (o :: rest) a w := by
  subst hq
  refine wpList_plain hgd fun K hK => ?_
  obtain ⟨v', w', hr, h2, h3, h4⟩ := run_addB w o.type hown ga gc m hs hn
  unfold Oper.wp execOp
  simp only [ho, resolve, invoke, builtin, Sem.run_bind, Sem.run_pure, Result.andThen_ok, List.map_toArray, List.map_cons, List.map_nil, hsv, hxv, hr]
  exact hK _ _ (h v' w' h2 h3 h4)
theorem OwnB.fr {X : Nat → Prop} {w w' : World} {v : Value} {l : List Nat} (h : OwnB w v l) (k : Fr X w w') (hx : ∀ b, v.ownBlock = some b → ¬ X b) : OwnB w' v l := by
  refine ⟨h.1, ?_⟩
  rcases h.2 with h0 | ⟨g, cap, cur, e, h1, hg, r⟩
  · exact .inl h0
  · refine .inr ⟨g, cap, cur, e, h1, ?_, r⟩
    rw [k.block g (Array.getElem?_eq_some_iff.1 hg).1 (hx g (by rw [e]; rfl))]
    exact hg
end Go.Proofs.Ytdfgdpgffblbpaa
