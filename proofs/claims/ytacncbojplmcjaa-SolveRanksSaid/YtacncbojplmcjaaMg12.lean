/-
  A statement that leaves its order open, whose calls write: all that it reads lies below what they write. One class of worlds, C, from beginning to end; the world itself is known at each step.
  A statement that leaves its order open, whose operations write, the last one whatever it likes: any class of worlds up to the last one; the world itself is known at each step. Nothing of the program's dump is named here.
  Statements that leave their order open and write: a class of worlds in which all but some blocks stay.
  The shelf's contract on slices.Sort over ints, laid at this dump.
  slices.Sort of numbers; the open unknowns of an equation.
  The open unknowns of an equation, walked.
  Of each unknown the equations that it is in.
-/
import Derived.Test.YtacncbojplmcjaaMg11
import Derived.Below
import Derived.Shelf.SortM.Plain
import Derived.Test.YtacncbojplmcjaaRows
section
namespace Go.Proofs.Ytacncbojplmcjaa
open Go.RowKit Go.Sort
set_option linter.unusedVariables false

section
variable {P : Program} {ops : Array Oper} {Q : Exit → Act → World → Prop} {C : World → Prop}

/-- Worlds that have what W has. -/
structure LowW (W : World) where
  v : World
  h : Below W.heap.size W v
instance lowW_some (W : World) : Nonempty (LowW W) := ⟨⟨W, Below.refl _ _⟩⟩
theorem low_class {W w : World} (h : Below W.heap.size W w) : ∃ p : LowW W, w = p.v := ⟨⟨w, h⟩, rfl⟩
theorem of_low {W w : World} (h : ∃ p : LowW W, w = p.v) : Below W.heap.size W w := by
  obtain ⟨p, rfl⟩ := h; exact p.h

theorem growW_begin {id : Nat} {a : Act} {w : World} {l : List Oper} (hm : P.follows .mixedOrders = true) (hC : C w.drew)
    (h : wpAnyH P .any l.toArray (NoPanic Q) C l.length (Array.replicate l.length false) a w.drew) : (Code.region id l.toArray true).wp P Q a w := by
  refine wp_region_noPanic (wp_region_held_drew (S := C) hm hC fun hS => ?_)
  simpa using h
theorem growW_take (hs : Region.noSelect ops = true) : ∀ (is : List Nat) (n : Nat) (listed : Array Bool) (a : Act), takesB ops is listed = true → ∀ w, C w →
    wpQuiet P ops C (fun a' => wpAnyH P .any ops (NoPanic Q) C n (marks is listed) a' w) (opsAt ops is) a → wpAnyH P .any ops (NoPanic Q) C (n + is.length) listed a w
  | [], n, listed, a, _, w, hw, h => h
  | i :: is, n, listed, a, hB, w, hw, h => by
    simp only [takesB, Bool.and_eq_true] at hB
    obtain ⟨⟨⟨hr, hf⟩, hp⟩, hB'⟩ := hB
    cases ho : ops[i]? with
    | none => rw [ho] at hp; simp at hp
    | some o =>
      rw [ho] at hp
      have hp' : plainOp o.op = true := by simpa using hp
      simp only [opsAt, ho, wpQuiet] at h
      have key : ∃ v, YieldsIf P ops C o v a ∧ wpQuiet P ops C (fun a' => wpAnyH P .any ops (NoPanic Q) C n (marks is (listed.setIfInBounds i true)) a' w) (opsAt ops is) (a.put o.dst v) := by
        by_cases hwt : Region.wanted o (yielded ops a.tmps) = true
        · rw [if_pos hwt] at h
          obtain ⟨v, h1, h2⟩ := h
          exact ⟨v, yieldsIf_of_quiet hp' hwt h1, h2⟩
        · rw [if_neg hwt] at h
          exact ⟨undef, .inr ⟨by simpa using hwt, rfl⟩, h⟩
      obtain ⟨v, hy, hq⟩ := key
      exact wpAnyH_take ho hs hf hr (fun _ _ _ h => h) hy hw (growW_take hs is n (listed.setIfInBounds i true) (a.put o.dst v) hB' w hw hq)
theorem growW_one (i : Nat) {n : Nat} {listed : Array Bool} {a : Act} {w : World} (hr : Region.ready .any ops listed = [i])
    (h : ∀ K : Act → World → Prop, Shut (∀ a' w1, C w1 → wpAnyH P .any ops (NoPanic Q) C n (listed.setIfInBounds i true) a' w1 → K a' w1) →
      stepOf P ops (NoPanic Q) K a w ops[i]?) : wpAnyH P .any ops (NoPanic Q) C (n + 1) listed a w := by
  refine wpAnyH_all hr (by simp) fun j hj => ?_
  obtain rfl : j = i := by simpa using hj
  have hs := h (fun a' w' => C w' ∧ wpAnyH P .any ops (NoPanic Q) C n (listed.setIfInBounds j true) a' w') (fun a' w1 h1 h2 => ⟨h1, h2⟩)
  unfold wpOp
  cases ho : ops[j]? with
  | none => rw [ho] at hs; exact hs.elim
  | some o =>
    rw [ho] at hs
    simp only [stepOf] at hs
    show if Region.wanted o (yielded ops a.tmps) = true then _ else _
    by_cases hwt : Region.wanted o (yielded ops a.tmps) = true
    · rw [if_pos hwt] at hs ⊢; exact .inl hs
    · rw [if_neg hwt] at hs ⊢; exact hs
theorem growW_done {n : Nat} {listed : Array Bool} {a : Act} {w : World} (hr : Region.ready .any ops listed = []) (h : Q .normal a w) : wpAnyH P .any ops (NoPanic Q) C n listed a w :=
  wpAnyH_done hr (NoPanic.normal h) n
end
end Go.Proofs.Ytacncbojplmcjaa
end

section
namespace Go.Proofs.Ytacncbojplmcjaa
open Go.RowKit Go.Sort
set_option linter.unusedVariables false

section
variable {P : Program} {ops : Array Oper} {Q : Exit → Act → World → Prop} {C : World → Prop} {last : Nat}

theorem growK_begin (last : Nat) (C : World → Prop) {id : Nat} {a : Act} {w : World} {l : List Oper} (hm : P.follows .mixedOrders = true)
    (h : wpAnyT P l.toArray (NoPanic Q) C last l.length (Array.replicate l.length false) a w.drew) : (Code.region id l.toArray true).wp P Q a w := by
  refine wp_region_noPanic (wp_region_any hm (wpAny_of_T (C := C) (last := last) _ _ _ _ ?_))
  rw [List.size_toArray]
  exact h
theorem growK_take (hs : Region.noSelect ops = true) : ∀ (is : List Nat) (n : Nat) (listed : Array Bool) (a : Act), takesT ops last is listed = true → ∀ w, C w →
    wpQuiet P ops C (fun a' => wpAnyT P ops (NoPanic Q) C last n (marks is listed) a' w) (opsAt ops is) a → wpAnyT P ops (NoPanic Q) C last (n + is.length) listed a w
  | [], n, listed, a, _, w, hw, h => h
  | i :: is, n, listed, a, hB, w, hw, h => by
    simp only [takesT, Bool.and_eq_true, Bool.or_eq_true, Bool.not_eq_true', beq_eq_false_iff_ne] at hB
    obtain ⟨⟨⟨⟨⟨hr, hf⟩, hk⟩, hil⟩, hp⟩, hB'⟩ := hB
    cases ho : ops[i]? with
    | none => rw [ho] at hp; simp at hp
    | some o =>
      rw [ho] at hp
      have hp' : plainOp o.op = true := by simpa using hp
      simp only [opsAt, ho, wpQuiet] at h
      have key : ∃ v, YieldsIf P ops C o v a ∧ wpQuiet P ops C (fun a' => wpAnyT P ops (NoPanic Q) C last n (marks is (listed.setIfInBounds i true)) a' w) (opsAt ops is) (a.put o.dst v) := by
        by_cases hwt : Region.wanted o (yielded ops a.tmps) = true
        · rw [if_pos hwt] at h
          obtain ⟨v, h1, h2⟩ := h
          exact ⟨v, yieldsIf_of_quiet hp' hwt h1, h2⟩
        · rw [if_neg hwt] at h
          exact ⟨undef, .inr ⟨by simpa using hwt, rfl⟩, h⟩
      obtain ⟨v, hy, hq⟩ := key
      have rest := growK_take hs is n (listed.setIfInBounds i true) (a.put o.dst v) hB' w hw hq
      cases hlo : loose ops i with
      | false =>
        rw [hlo] at hk
        obtain ⟨hk1, hk2⟩ := hk.resolve_left (by simp)
        exact wpAnyT_take ho hil hlo (sink_of hk1) hk2 hs hf hr (fun _ _ _ h => h) hy hw rest
      | true =>
        refine wpAnyT_loose ho hil hs hf hr (fun _ _ _ h => h) ?_ hw rest
        unfold loose at hlo
        rw [ho] at hlo
        obtain ⟨x, k, hop⟩ : ∃ x k, o.op = .extract x k := by
          cases hop : o.op <;> simp only [hop, Bool.false_eq_true] at hlo
          exact ⟨_, _, rfl⟩
        exact hy.imp (fun ⟨h1, h2⟩ => ⟨h1, fun w' _ => extract_any hop (h2 w hw) w'⟩) id
theorem growK_one (i : Nat) {n : Nat} {listed : Array Bool} {a : Act} {w : World} (hr : Region.ready .any ops listed = [i])
    (h : ∀ K : Act → World → Prop, Shut (∀ a' w1, C w1 → wpAnyT P ops (NoPanic Q) C last n (listed.setIfInBounds i true) a' w1 → K a' w1) →
      stepOf P ops (NoPanic Q) K a w ops[i]?) : wpAnyT P ops (NoPanic Q) C last (n + 1) listed a w := by
  refine wpAnyT_all hr (by simp) fun j hj => ?_
  obtain rfl : j = i := by simpa using hj
  have hs := h (fun a' w' => ((listed.setIfInBounds j true).getD last true = false → C w') ∧ wpAnyT P ops (NoPanic Q) C last n (listed.setIfInBounds j true) a' w') (fun a' w1 h1 h2 => ⟨fun _ => h1, h2⟩)
  unfold wpOp
  cases ho : ops[j]? with
  | none => rw [ho] at hs; exact hs.elim
  | some o =>
    rw [ho] at hs
    simp only [stepOf] at hs
    show if Region.wanted o (yielded ops a.tmps) = true then _ else _
    by_cases hwt : Region.wanted o (yielded ops a.tmps) = true
    · rw [if_pos hwt] at hs ⊢; exact .inl hs
    · rw [if_neg hwt] at hs ⊢; exact hs
theorem growK_last {n : Nat} {listed : Array Bool} {a : Act} {w : World} (hr : Region.ready .any ops listed = [last]) (hd : Region.ready .any ops (listed.setIfInBounds last true) = [])
    (h : ∀ K : Act → World → Prop, Shut (∀ a' w1, Q .normal a' w1 → K a' w1) → stepOf P ops (NoPanic Q) K a w ops[last]?) : wpAnyT P ops (NoPanic Q) C last (n + 1) listed a w := by
  refine wpAnyT_all hr (by simp) fun j hj => ?_
  obtain rfl : j = last := by simpa using hj
  have hs := h (fun a' w' => ((listed.setIfInBounds j true).getD j true = false → C w') ∧ wpAnyT P ops (NoPanic Q) C j n (listed.setIfInBounds j true) a' w') (fun a' w1 hq => ⟨fun e => (by rw [getD_set_self] at e; cases e), wpAnyT_done hd (NoPanic.normal hq) n⟩)
  unfold wpOp
  cases ho : ops[j]? with
  | none => rw [ho] at hs; exact hs.elim
  | some o =>
    rw [ho] at hs
    simp only [stepOf] at hs
    show if Region.wanted o (yielded ops a.tmps) = true then _ else _
    by_cases hwt : Region.wanted o (yielded ops a.tmps) = true
    · rw [if_pos hwt] at hs ⊢; exact .inl hs
    · rw [if_neg hwt] at hs ⊢; exact hs
end
end Go.Proofs.Ytacncbojplmcjaa
end

section
namespace Go.Proofs.Ytacncbojplmcjaa
open Go.ChangeShapes Go.WideShapes Go.ChangeAt Go.RowKit Go.Joins
set_option linter.unusedVariables false

/-- Worlds that have what W has, but for the blocks that S names. -/
structure KeepW (W : World) (S : Nat → Prop) where
  v : World
  h : Fr S W v
instance keepW_some (W : World) (S : Nat → Prop) : Nonempty (KeepW W S) := ⟨⟨W, Fr.refl _ _⟩⟩
theorem keep_class {W w : World} {S : Nat → Prop} (h : Fr S W w) : ∃ p : KeepW W S, w = p.v := ⟨⟨w, h⟩, rfl⟩
theorem KeepW.cell {W : World} {S : Nat → Prop} (p : KeepW W S) {b i : Nat} (hb : b < W.heap.size) (hS : ¬ S b) : p.v.cell? ⟨b, i, none⟩ = W.cell? ⟨b, i, none⟩ :=
  World.cell?_of_block (a := ⟨b, i, none⟩) (p.h.block b hb hS)
theorem KeepW.loose {W : World} {S : Nat → Prop} (p : KeepW W S) {b i : Nat} (hb : b < W.heap.size) (hS : ¬ S b) {cs : Array Value} {t : TypeId} (h : W.heap[b]? = some (.cells cs t (0, 0))) : p.v.frozen? ⟨b, i, none⟩ = false :=
  unfrozen_of_block ((p.h.block b hb hS).trans h) i

/-- A number is appended, where the order is open. -/
theorem wp_push_n {o : Oper} {a : Act} {K : Act → World → Prop} {Q : Exit → Act → World → Prop} (w : World) (s x : Operand)
    (ho : o.op = .call { callee := .builtin .append, args := #[s, x], argTypes := #[29, 29] })
    (B : Nat) (v : Value) (l : List Nat) (hs : a.eval s = v) (hown : OwnN B w v l) (g : Nat) (hx : a.eval x = .slice (some ⟨g, 0, none⟩) 1 1)
    (n : Nat) (hcell : w.cell? ⟨g, 0, none⟩ = some (.int .i64 (n : Int))) (hB : B ≤ w.heap.size) (hlen : l.length ≤ 1000000)
    (h : ∀ v' w', Hid (OwnN B w' v' (l ++ [n])) → Hid (w.grownBy w' v.ownBlock) → Hid (v'.ownBlock = v.ownBlock ∨ v'.ownBlock = some w.heap.size) → K (a.put o.dst v') w') : o.wp Try.prog a w K Q := by
  obtain ⟨i0, hi, hz0, hz1, hz2⟩ := info_q infoN
  obtain ⟨v', w', hr, h1, h2, -, h5⟩ := run_append_own_at (P := Try.prog) w B 29 o.type 3 i0 (.int .i64 0) 1 8 Try.underlying29 hi hz0 hz1 hz2 rfl (by decide) v l.length _ hown ⟨g, 0, none⟩ 1 1 [.int .i64 (n : Int)] rfl (one_here hcell) (by simp [Value.oneCell']) (by unfold maxLen; omega) (by omega) hB
  unfold Oper.wp execOp
  simp only [ho, resolve, invoke, builtin, Sem.run_bind, Sem.run_pure, Result.andThen_ok, List.map_toArray, List.map_cons, List.map_nil, hs, hx, hr]
  refine h v' w' ?_ h2 h5
  show OwnN B w' v' (l ++ [n])
  unfold OwnN
  rw [List.length_append]
  simpa [encN] using h1
end Go.Proofs.Ytacncbojplmcjaa
end

section
namespace Go.Proofs.Ytacncbojplmcjaa
open Go.Shelf Go.Proofs
def lay_sortI_ren : Go.Shelf.Ren := ⟨fun | 5 => 42 | 8 => 55 | 7 => 54 | 19 => 68 | 20 => 69 | 10 => 59 | 11 => 60 | 12 => 61 | 13 => 62 | 14 => 63 | 15 => 64 | 16 => 65 | 17 => 66 | 18 => 67 | 30 => 72 | 31 => 73 | 32 => 74 | 33 => 75 | 34 => 76 | 35 => 77 | 40 => 78 | n => n, fun | 23 => 29 | 25 => 3 | 3 => 3 | 32 => 57 | 22 => 29 | 0 => 0 | 44 => 98 | 46 => 101 | 4 => 4 | 36 => 116 | 35 => 115 | 41 => 120 | 5 => 5 | 9 => 9 | 53 => 125 | 57 => 129 | 63 => 132 | 64 => 133 | n => n, fun | n => n⟩
theorem lay_sortI : Go.Proofs.SlLaysM.n5 Try.prog lay_sortI_ren := {
  mixed := by kernel_rfl
  f5 := ⟨Try.f42.name, by decide, Try.func42.trans (congrArg some (by kernel_rfl))⟩
  f7 := ⟨Try.f54.name, by decide, Try.func54.trans (congrArg some (by kernel_rfl))⟩
  f8 := Try.func55.trans (congrArg some (by kernel_rfl))
  f10 := ⟨Try.f59.name, by decide, Try.func59.trans (congrArg some (by kernel_rfl))⟩
  f11 := ⟨Try.f60.name, by decide, Try.func60.trans (congrArg some (by kernel_rfl))⟩
  f12 := ⟨Try.f61.name, by decide, Try.func61.trans (congrArg some (by kernel_rfl))⟩
  f13 := ⟨Try.f62.name, by decide, Try.func62.trans (congrArg some (by kernel_rfl))⟩
  f14 := ⟨Try.f63.name, by decide, Try.func63.trans (congrArg some (by kernel_rfl))⟩
  f15 := ⟨Try.f64.name, by decide, Try.func64.trans (congrArg some (by kernel_rfl))⟩
  f16 := ⟨Try.f65.name, by decide, Try.func65.trans (congrArg some (by kernel_rfl))⟩
  f17 := ⟨Try.f66.name, by decide, Try.func66.trans (congrArg some (by kernel_rfl))⟩
  f18 := ⟨Try.f67.name, by decide, Try.func67.trans (congrArg some (by kernel_rfl))⟩
  f19 := Try.func68.trans (congrArg some (by kernel_rfl))
  f20 := Try.func69.trans (congrArg some (by kernel_rfl))
  f30 := ⟨Try.f72.name, by decide, Try.func72.trans (congrArg some (by kernel_rfl))⟩
  f31 := Try.func73.trans (congrArg some (by kernel_rfl))
  f32 := Try.func74.trans (congrArg some (by kernel_rfl))
  f33 := ⟨Try.f75.name, by decide, Try.func75.trans (congrArg some (by kernel_rfl))⟩
  f34 := ⟨Try.f76.name, by decide, Try.func76.trans (congrArg some (by kernel_rfl))⟩
  f35 := ⟨Try.f77.name, by decide, Try.func77.trans (congrArg some (by kernel_rfl))⟩
  f40 := ⟨Try.f78.name, by decide, Try.func78.trans (congrArg some (by kernel_rfl))⟩
  t0 := Try.underlying0
  a0 := Try.isAgg0
  z0 := Try.sizeOf0
  v0 := Try.zeroValue0
  t3 := Try.underlying3
  a3 := Try.isAgg3
  z3 := Try.sizeOf3
  v3 := Try.zeroValue3
  t4 := Try.underlying4
  a4 := Try.isAgg4
  z4 := Try.sizeOf4
  v4 := Try.zeroValue4
  t5 := Try.underlying5
  a5 := Try.isAgg5
  z5 := Try.sizeOf5
  v5 := Try.zeroValue5
  t9 := Try.underlying9
  a9 := Try.isAgg9
  z9 := Try.sizeOf9
  v9 := Try.zeroValue9
  t22 := Try.underlying29
  a22 := Try.isAgg29
  z22 := Try.sizeOf29
  v22 := Try.zeroValue29
  t23 := Try.underlying29
  a23 := Try.isAgg29
  z23 := Try.sizeOf29
  v23 := Try.zeroValue29
  t25 := Try.underlying3
  a25 := Try.isAgg3
  z25 := Try.sizeOf3
  v25 := Try.zeroValue3
  t32 := Try.underlying57
  a32 := Try.isAgg57
  z32 := Try.sizeOf57
  v32 := Try.zeroValue57
  t35 := Try.underlying115
  a35 := Try.isAgg115
  z35 := Try.sizeOf115
  v35 := Try.zeroValue115
  t36 := Try.underlying116
  a36 := Try.isAgg116
  z36 := Try.sizeOf116
  v36 := Try.zeroValue116
  t41 := Try.underlying120
  a41 := Try.isAgg120
  z41 := Try.sizeOf120
  v41 := Try.zeroValue120
  t44 := Try.underlying98
  a44 := Try.isAgg98
  z44 := Try.sizeOf98
  v44 := Try.zeroValue98
  t46 := Try.underlying101
  a46 := Try.isAgg101
  z46 := Try.sizeOf101
  v46 := Try.zeroValue101
  t53 := Try.underlying125
  a53 := Try.isAgg125
  z53 := Try.sizeOf125
  v53 := Try.zeroValue125
  t57 := Try.underlying129
  a57 := Try.isAgg129
  z57 := Try.sizeOf129
  v57 := Try.zeroValue129
  t63 := Try.underlying132
  a63 := Try.isAgg132
  z63 := Try.sizeOf132
  v63 := Try.zeroValue132
  t64 := Try.underlying133
  a64 := Try.isAgg133
  z64 := Try.sizeOf133
  v64 := Try.zeroValue133 }
end Go.Proofs.Ytacncbojplmcjaa
end

section
namespace Go.Proofs.Ytacncbojplmcjaa
open Go.ChangeShapes Go.WideShapes Go.ChangeAt Go.RowKit Go.Joins Go.Shelf Go.Sort
set_option linter.unusedVariables false

theorem sort_ints (blk cap : Nat) (P : List Nat) (w : World) (h : Row w blk 3 cap P.length (lV P)) (hl : P.length ≤ 1000000) :
    Calls Try.prog 42 #[.slice (some ⟨blk, 0, none⟩) P.length cap] w fun e w' => e = .returned (.tuple #[]) ∧ ∃ P' : List Nat, P'.Perm P ∧ Row w' blk 3 cap P.length (lV P') ∧ Fr (fun b => b = blk) w w' := by
  have hz : (P.map fun n : Nat => (n : Int)).length = P.length := by simp
  have hH : Holds (Value.int .i64) w blk 0 (P.map fun n : Nat => (n : Int)).toArray := fun j hj => by
    have hj2 : j < P.length := by simpa using hj
    refine ⟨?_, h.loose _⟩
    rw [Nat.zero_add, h.cell j hj2, lV_get hj2]
    simp [hj2]
  have hc := AnyM.slices_Sort_int lay_sortI blk 0 cap (P.map fun n : Nat => (n : Int)) w hH h.lt (by rw [hz]; omega)
  rw [hz] at hc
  refine hc.mono ?_
  rintro e w' ⟨rfl, n, os, rfl⟩
  refine ⟨rfl, ?_⟩
  have hp := List.mergeSort_perm (P.map fun n : Nat => (n : Int)) (fun x y => decide (x ≤ y))
  generalize (P.map fun n : Nat => (n : Int)).mergeSort (fun x y => decide (x ≤ y)) = Z at *
  have hzl : Z.length = P.length := by rw [hp.length_eq, hz]
  have hpos : ∀ z ∈ Z, 0 ≤ z := fun z hz => by
    obtain ⟨n, _, rfl⟩ := List.mem_map.1 (hp.mem_iff.1 hz)
    omega
  refine ⟨Z.map Int.toNat, ?_, ?_, ?_⟩
  · have := hp.map Int.toNat
    rw [List.map_map] at this
    rwa [show (P.map (Int.toNat ∘ fun n : Nat => (n : Int))) = P from by
      rw [show (Int.toNat ∘ fun n : Nat => (n : Int)) = id from by funext n; simp]; simp] at this
  · obtain ⟨cs, h1, h2, h3⟩ := h
    have hlt := (Array.getElem?_eq_some_iff.1 h1).1
    refine ⟨putCells (Value.int .i64) 0 Z.toArray cs, ?_, by simp [putCells, h2], fun j hj => ?_⟩
    · unfold grow putRow mapBlock
      simp only
      rw [Array.getElem?_append_left (by simpa using hlt), Array.getElem?_modify, if_pos rfl]
      show (w.heap[blk]?).map _ = _
      rw [h1]
      rfl
    · have hjz : j < Z.length := by omega
      have hjc : j < cs.size := by
        have := h3 j hj
        exact (Array.getElem?_eq_some_iff.1 this).1
      have hz0 := hpos _ (List.getElem_mem hjz)
      rw [lV_get (by simp [hzl]; exact hj)]
      unfold putCells
      rw [Array.getElem?_mapIdx, Array.getElem?_eq_getElem hjc]
      simp [hjz]
      omega
  · refine ⟨rfl, rfl, rfl, ?_, fun k hk hx => ?_⟩
    · simp [grow, putRow, mapBlock]
    · unfold grow putRow mapBlock
      simp only
      rw [Array.getElem?_append_left (by simpa using hk), Array.getElem?_modify, if_neg (fun e => hx e.symm)]
      rfl

/-- The places of an equation's cells. -/
def pl (l : Cz) : List Nat := l.map fun c => c.1.toNat
/-- The first k cells' open unknowns. -/
def openTo (opn : Nat → Bool) (l : Cz) (k : Nat) : List Nat := (pl (l.take k)).filter opn
theorem openTo_next {opn : Nat → Bool} {l : Cz} {k : Nat} (h : k < l.length) : openTo opn l (k + 1) = openTo opn l k ++ (if opn l[k].1.toNat then [l[k].1.toNat] else []) := by
  unfold openTo pl
  rw [List.take_succ_eq_append_getElem h, List.map_append, List.filter_append]
  congr 1
  simp [List.filter_cons]
theorem openTo_len (opn : Nat → Bool) (l : Cz) (k : Nat) : (openTo opn l k).length ≤ k := by
  unfold openTo pl
  refine Nat.le_trans (List.length_filter_le _ _) ?_
  rw [List.length_map, List.length_take]
  omega
end Go.Proofs.Ytacncbojplmcjaa
end

section
namespace Go.Proofs.Ytacncbojplmcjaa
open Go.ChangeShapes Go.WideShapes Go.ChangeAt Go.RowKit Go.Joins
set_option linter.unusedVariables false

theorem row_of_own {B : Nat} {w : World} {v : Value} {l : List Nat} (hl : l ≠ []) (h : OwnN B w v l) :
    ∃ g cap, v = .slice (some ⟨g, 0, none⟩) l.length cap ∧ Row w g 3 cap l.length (lV l) ∧ l.length ≤ cap ∧ cap ≤ maxLen ∧ B ≤ g := by
  rcases h.2 with ⟨_, h0⟩ | ⟨g, cap, cur, hv, hB, hh, h1, h2, h3, h4⟩
  · exact absurd (List.eq_nil_of_length_eq_zero h0) hl
  · refine ⟨g, cap, hv, ⟨cur, hh, by omega, fun j hj => ?_⟩, h1, h2, hB⟩
    rw [lV_get hj]
    have := congrArg (fun x => x[j]?) h4
    simp only [encN, List.getElem?_map] at this
    rw [List.getElem?_take, if_pos (by omega)] at this
    simpa [hj] using this
theorem OwnN.below {B : Nat} {w w' : World} {v : Value} {l : List Nat} (h : OwnN B w v l) (k : Below w.heap.size w w') : OwnN B w' v l := by
  refine World.ownsRow.kept (row := none) h ⟨k.os, k.tape, k.output, k.size, fun j hj _ => k.block j hj⟩ ?_
  cases hv : v.ownBlock with
  | none => exact .inl rfl
  | some g => exact .inr (by simp)
theorem OwnN.push_below {B : Nat} {w w' : World} {v : Value} {l : List Nat} (h : OwnN B w v l) (hg : w.grownBy w' v.ownBlock) (hB : B ≤ w.heap.size) : Below B w w' :=
  ⟨hg.os, hg.tape, hg.output, hg.size, fun k hk => hg.block k (by omega) fun e => by
    have := (World.ownsRow.lt h k e.symm).1; omega⟩

set_option maxRecDepth 100000 in
set_option maxHeartbeats 4000000 in
theorem openPlaces_any (a : Option Addr) (cap : Nat) (l : Cz) (ob n : Nat) (opn : Nat → Bool) (hn : n ≤ 1000) (w : World) (hs : Cr w a cap l) (ho : Row w ob 4 n n (bV opn)) (hr : ∀ c ∈ l, 0 ≤ c.1 ∧ c.1 < (n : Int)) (hl : l.length ≤ 1000000) (hne : openTo opn l l.length ≠ []) :
    Calls Try.prog 32 #[.slice a l.length cap, .slice (some ⟨ob, 0, none⟩) n n] w fun e w' =>
      ∃ g cp P, e = .returned (.slice (some ⟨g, 0, none⟩) P.length cp) ∧ P.Perm (openTo opn l l.length) ∧ Row w' g 3 cp P.length (lV P) ∧ P.length ≤ cp ∧ cp ≤ maxLen ∧ w.heap.size ≤ g ∧ Below w.heap.size w w' := by
  have HS := Lib.hid hs
  have HO := Lib.hid ho
  have hlt0 := ho.lt
  have HO0 : Hid (OwnN w.heap.size w (.slice none 0 0) (openTo opn l 0)) := OwnN.nil _ _
  have HB0 : Hid (Below w.heap.size w w) := Below.refl _ _
  clear hs ho
  go_enter Try.func32, Try.ntmps32
  go_wp2_with fail
  go_loopw [5, 10] (fun v i wr => ∃ k : Nat, k ≤ l.length ∧ i = .int .i64 k ∧ Hid (OwnN w.heap.size wr v (openTo opn l k)) ∧ Hid (Below w.heap.size w wr)) (fun _ i _ => l.length - (intOf i).toNat)
  case atStart => exact ⟨0, by omega, rfl, HO0, HB0⟩
  case round =>
    obtain ⟨k, hk, rfl, HN, HB⟩ := hrel
    clear HB0 HO0
    by_cases hlt : k < l.length
    · obtain ⟨b, off, rfl, hb, hc⟩ := (HS.out.below HB.out).some hlt
      obtain ⟨c0, c1⟩ := hc k hlt
      obtain ⟨r1, r2⟩ := hr _ (List.getElem_mem hlt)
      have HX := Lib.hid (openTo_next (opn := opn) hlt)
      obtain ⟨p, hp⟩ : ∃ p : Nat, l[k].1 = (p : Int) := ⟨l[k].1.toNat, by omega⟩
      obtain ⟨y, hy⟩ : ∃ y : Nat, y = l[k].2 := ⟨_, rfl⟩
      have hpt : l[k].1.toNat = p := by omega
      rw [hpt] at HX
      rw [hp] at c0 r2
      rw [← hy] at c1
      have b0 : b < wr.heap.size := World.block_lt_of_cell? wr _ c0
      have hpn : p < n := by omega
      have c2 := (HB.out.cell (p := ⟨ob, p, none⟩) hlt0).trans (HO.out.cell p hpn)
      have b2 : ob < wr.heap.size := Nat.lt_of_lt_of_le hlt0 HB.out.size
      unfold bV at c2
      have hlen := openTo_len opn l k
      clear hc hp hy hpt r1
      obtain ⟨W1, rfl⟩ : ∃ x, x = wr := ⟨_, rfl⟩
      have HA := Lib.hid ((HN.out.below ((Below.refl _ _).alloc (Nat.le_refl _) (.cells #[.int .i64 (p : Int), .int .u8 (y : Int)] 42))).below ((Below.refl _ _).alloc (Nat.le_refl _) (.cells #[.int .i64 (p : Int)] 3)))
      have HBA := Lib.hid ((HB.out.alloc HB.out.size (.cells #[.int .i64 (p : Int), .int .u8 (y : Int)] 42)).alloc (by have := HB.out.size; simp; omega) (.cells #[.int .i64 (p : Int)] 3))
      by_cases hop : opn p = true
      · have HX2 : Hid (openTo opn l (k + 1) = openTo opn l k ++ [p]) := by rw [if_pos hop] at HX; exact HX.out
        rw [hop] at c2
        clear HX hop
        go_wp2_with (at_builtin; refine wpList_push_n _ rfl _ _ rfl w.heap.size _ _ rfl HA.out (W1.heap.size + 1) rfl p (by simp) (by have := HBA.out.size; omega) (by omega) ?_; intro v' w2 h1 h2 h3; have HB2 := Lib.hid (HBA.out.trans (HA.out.push_below h2.out HBA.out.size)); clear h2 h3)
        go_roundw
        case rel => exact ⟨k + 1, by omega, by go_num, by rw [HX2.out]; exact h1, HB2⟩
        case measure => simp [intOf]; omega
      · have hop2 : opn p = false := by simpa using hop
        have HX2 : Hid (openTo opn l (k + 1) = openTo opn l k) := by rw [if_neg hop, List.append_nil] at HX; exact HX.out
        rw [hop2] at c2
        have HA1 := Lib.hid (HN.out.below ((Below.refl _ _).alloc (Nat.le_refl _) (.cells #[.int .i64 (p : Int), .int .u8 (y : Int)] 42)))
        have HB1 := Lib.hid (HB.out.alloc HB.out.size (.cells #[.int .i64 (p : Int), .int .u8 (y : Int)] 42))
        clear HX hop HA HBA HN
        go_wp2_with fail
        go_roundw
        case rel => exact ⟨k + 1, by omega, by go_num, by rw [HX2.out]; exact HA1, HB1⟩
        case measure => simp [intOf]; omega
    · obtain rfl : k = l.length := by omega
      obtain ⟨g, cp, rfl, hrow, h1, h2, h3⟩ := row_of_own hne HN.out
      have hlen := openTo_len opn l l.length
      have HST := Lib.hid (sort_ints g cp _ wr hrow (by omega))
      obtain ⟨P, hP⟩ : ∃ P, P = openTo opn l l.length := ⟨_, rfl⟩
      rw [← hP] at hrow h1 hlen HST ⊢
      have HPE := Lib.hid hP
      clear hP
      have hcp : P.length ≤ maxLen := by omega
      clear hrow HN
      go_wp2_with fail
      (with_reducible refine HST.out.mono ?_)
      rintro e w2 ⟨rfl, P', hp, hrow, hf⟩
      have HP := Lib.hid hp
      have HR := Lib.hid hrow
      have HF := Lib.hid (HB.out.trans (hf.below HB.out.size fun b hb e => by omega))
      have hpl : P.length = P'.length := hp.length_eq.symm
      clear hp hrow hf HST
      go_wp2_with fail
      go_ret
      exact ⟨g, cp, P', rfl, by rw [← HPE.out]; exact HP.out, by rw [← hpl]; exact HR.out, by omega, h2, h3, HF.out⟩
end Go.Proofs.Ytacncbojplmcjaa
end

section
namespace Go.Proofs.Ytacncbojplmcjaa
open Go.ChangeShapes Go.WideShapes Go.ChangeAt Go.RowKit Go.Joins
set_option linter.unusedVariables false

theorem infoIs : (Try.prog.info? 29).map (fun i => (i.zero, i.size, i.bytes)) = some (some (.slice none 0 0), 1, 24) := by kernel_rfl
def nilS (_ : Nat) : Value := .slice none 0 0
set_option maxRecDepth 100000 in
theorem make_slices (n : Nat) (hn : n ≤ 1000000) (w : World) : (Instr.makeSlice 73 (.int .i64 (n : Int)) (.int .i64 (n : Int))).run Try.prog w = .ok (.slice (some ⟨w.heap.size, 0, none⟩) n n) (w.alloc (.cells (rowArr n nilS) 29)) := by
  have h := run_make_row' (P := Try.prog) 73 29 (.slice none 0 0) 24 Try.underlying73 infoIs rfl .i64 .i64 n (by omega) (by omega) w
  rw [h]
  congr 3
  apply Array.ext
  · simp [madeCells, rowArr]
  · intro i h1 h2
    simp [madeCells, rowArr, nilS, Nat.mod_one]

/-- Rows that are made by append, side by side, their slices in block g. -/
structure InAt (B : Nat) (w : World) (g n : Nat) (vs : Nat → Value) (L : Nat → List Nat) : Prop where
  row : Row w g 29 n n vs
  own : ∀ x, x < n → OwnN B w (vs x) (L x)
  apart : ∀ x y, x < n → y < n → x ≠ y → ∀ b, (vs x).ownBlock = some b → (vs y).ownBlock ≠ some b
  hi : B ≤ g
theorem own_typed {B : Nat} {w : World} {v : Value} {l : List Nat} {b : Nat} (h : OwnN B w v l) (hb : v.ownBlock = some b) : ∃ cs, w.heap[b]? = some (.cells cs 3 (0, 0)) := by
  rcases h.2 with ⟨rfl, _⟩ | ⟨g, cap, cur, rfl, _, hh, _⟩
  · simp [Value.ownBlock] at hb
  · have : g = b := by simpa [Value.ownBlock] using hb
    subst this
    exact ⟨cur, hh⟩
theorem own_hi {B : Nat} {w : World} {v : Value} {l : List Nat} {b : Nat} (h : OwnN B w v l) (hb : v.ownBlock = some b) : B ≤ b := by
  rcases h.2 with ⟨rfl, _⟩ | ⟨g, cap, cur, rfl, hB, _⟩
  · simp [Value.ownBlock] at hb
  · have : g = b := by simpa [Value.ownBlock] using hb
    omega
theorem InAt.ne {B : Nat} {w : World} {g n : Nat} {vs : Nat → Value} {L : Nat → List Nat} (h : InAt B w g n vs L) {x : Nat} (hx : x < n) : (vs x).ownBlock ≠ some g := fun e => by
  obtain ⟨cs, h1⟩ := own_typed (h.own x hx) e
  obtain ⟨cs', h2, _⟩ := h.row
  rw [h1] at h2
  injection h2 with h2
  injection h2 with _ h2 _
  exact absurd h2 (by decide)
theorem InAt.low {B : Nat} {w : World} {g n : Nat} {vs : Nat → Value} {L : Nat → List Nat} (h : InAt B w g n vs L) {x b : Nat} (hx : x < n) (hb : (vs x).ownBlock = some b) : b < w.heap.size := by
  obtain ⟨cs, h1⟩ := own_typed (h.own x hx) hb
  exact (Array.getElem?_eq_some_iff.1 h1).1
theorem InAt.keep {B : Nat} {w w' : World} {g n : Nat} {vs : Nat → Value} {L : Nat → List Nat} (h : InAt B w g n vs L) (k : Below w.heap.size w w') : InAt B w' g n vs L :=
  ⟨h.row.below k h.row.lt, fun x hx => (h.own x hx).below k, h.apart, h.hi⟩
theorem InAt.push {B : Nat} {w w' : World} {g n : Nat} {vs : Nat → Value} {L : Nat → List Nat} (h : InAt B w g n vs L) {x i : Nat} (hx : x < n) {v' : Value}
    (h1 : OwnN B w' v' (L x ++ [i])) (h2 : w.grownBy w' (vs x).ownBlock) (h5 : v'.ownBlock = (vs x).ownBlock ∨ v'.ownBlock = some w.heap.size) :
    InAt B (w'.setCell ⟨g, x, none⟩ v') g n (fun y => if y = x then v' else vs y) (fun y => if y = x then L x ++ [i] else L y) := by
  have hg := h.row.lt
  have hgn := h.ne hx
  have hset : ∀ {v : Value} {l : List Nat}, v.ownBlock ≠ some g → OwnN B w' v l → OwnN B (w'.setCell ⟨g, x, none⟩ v') v l := fun {v l} hv ho => by
    refine World.ownsRow.kept (row := some g) ho ⟨rfl, rfl, rfl, by simp, fun j hj hne => Below.heap_setCell _ _ _ _ fun e => hne (by rw [e])⟩ ?_
    exact .inr fun e => hv e
  have hvg : v'.ownBlock ≠ some g := fun e => by
    rcases h5 with h5 | h5
    · exact hgn (h5.symm.trans e)
    · rw [h5] at e; injection e with e; omega
  refine ⟨?_, fun y hy => ?_, fun y z hy hz hyz b hb hb2 => ?_, h.hi⟩
  · obtain ⟨cs, r1, r2, r3⟩ := h.row
    have r4 : w'.heap[g]? = some (.cells cs 29 (0, 0)) := (h2.block g hg fun e => hgn e.symm).trans r1
    exact (show Row w' g 29 n n vs from ⟨cs, r4, r2, r3⟩).upd x hx v'
  · by_cases e : y = x
    · subst e
      simp only [if_true]
      exact hset hvg h1
    · simp only [if_neg e]
      refine hset (h.ne hy) ?_
      refine World.ownsRow.kept (h.own y hy) h2 ?_
      cases hv : (vs y).ownBlock with
      | none => exact .inl rfl
      | some c => exact .inr fun e2 => h.apart y x hy hx e c hv e2.symm
  · by_cases e1 : y = x
    · subst e1
      simp only [if_true] at hb
      simp only [if_neg (Ne.symm hyz)] at hb2
      rcases h5 with h5 | h5
      · exact h.apart y z hy hz hyz b (h5 ▸ hb) hb2
      · have := h.low hz hb2
        rw [h5] at hb
        injection hb with hb
        omega
    · simp only [if_neg e1] at hb
      by_cases e2 : z = x
      · subst e2
        simp only [if_true] at hb2
        rcases h5 with h5 | h5
        · exact h.apart y z hy hz hyz b hb (h5 ▸ hb2)
        · have := h.low hy hb
          rw [h5] at hb2
          injection hb2 with hb2
          omega
      · simp only [if_neg e2] at hb2
        exact h.apart y z hy hz hyz b hb hb2
theorem InAt.new (w : World) (n : Nat) : InAt w.heap.size (w.alloc (.cells (rowArr n nilS) 29)) w.heap.size n nilS (fun _ => []) :=
  ⟨Row.new_whole w _ _ _ _ _ rfl rfl, fun x hx => OwnN.nil _ _, fun x y _ _ _ b hb => by simp [nilS, Value.ownBlock] at hb, Nat.le_refl _⟩

/-- How often the equation e tells the unknown x, when k equations and j cells are done. -/
def cnt (es : Eqz) (k j e x : Nat) : Nat := if e < k then (pl (es.getD e [])).count x else if e = k then (pl ((es.getD k []).take j)).count x else 0
theorem cnt_start (es : Eqz) (e x : Nat) : cnt es 0 0 e x = 0 := by
  unfold cnt; split
  · omega
  · split <;> simp [pl]
theorem cnt_next {es : Eqz} {k j : Nat} (hk : k < es.length) (hj : j < es[k].length) {p : Nat} (hp : es[k][j].1.toNat = p) (e x : Nat) : cnt es k (j + 1) e x = cnt es k j e x + (if x = p ∧ e = k then 1 else 0) := by
  unfold cnt
  by_cases h1 : e < k
  · rw [if_pos h1, if_pos h1, if_neg (by omega)]
    rfl
  · rw [if_neg h1, if_neg h1]
    by_cases h2 : e = k
    · subst h2
      have hg : es.getD e [] = es[e] := by simp [List.getD, hk]
      rw [if_pos rfl, if_pos rfl, hg]
      unfold pl
      rw [List.take_succ_eq_append_getElem hj, List.map_append, List.count_append]
      congr 1
      simp only [List.map_cons, List.map_nil, hp]
      by_cases hx : x = p
      · subst hx; simp
      · rw [if_neg (by simp [hx]), List.count_eq_zero]
        simpa using hx
    · rw [if_neg h2, if_neg h2, if_neg (fun h => h2 h.2)]
theorem cnt_round {es : Eqz} {k : Nat} (hk : k < es.length) (e x : Nat) : cnt es (k + 1) 0 e x = cnt es k es[k].length e x := by
  unfold cnt
  have hg : es.getD k [] = es[k] := by simp [List.getD, hk]
  by_cases h1 : e < k
  · rw [if_pos (by omega), if_pos h1]
  · rw [if_neg h1]
    by_cases h2 : e = k
    · subst h2
      rw [if_pos (by omega), if_pos rfl, hg, List.take_length]
    · rw [if_neg (by omega), if_neg h2]
      split <;> simp [pl]
/-- What holds when k equations and j cells are done. -/
structure InTo (w0 w : World) (g n : Nat) (es : Eqz) (k j : Nat) : Prop where
  have_ : ∃ vs L, InAt w0.heap.size w g n vs L ∧ (∀ x e, x < n → (L x).count e = cnt es k j e x) ∧ ∀ x, x < n → (L x).length ≤ k * 1000 + j
  low : Below w0.heap.size w0 w
theorem InTo.keep {w0 w w' : World} {g n : Nat} {es : Eqz} {k j : Nat} (h : InTo w0 w g n es k j) (q : Below w.heap.size w w') : InTo w0 w' g n es k j := by
  obtain ⟨⟨vs, L, h1, h2, h3⟩, h4⟩ := h
  exact ⟨⟨vs, L, h1.keep q, h2, h3⟩, h4.trans (q.mono h4.size)⟩

set_option maxRecDepth 100000 in
set_option maxHeartbeats 4000000 in
theorem equationsOf_any (a : Option Addr) (cap : Nat) (es : Eqz) (n : Nat) (hn : n ≤ 1000) (w : World) (hs : Er w a cap es) (hm : es.length ≤ 1000) (hr : ∀ l ∈ es, ∀ c ∈ l, 0 ≤ c.1 ∧ c.1 < (n : Int)) (hl : ∀ l ∈ es, l.length ≤ 1000) :
    Calls Try.prog 28 #[.slice a es.length cap, .int .i64 (n : Int)] w fun e w' => ∃ g, e = .returned (.slice (some ⟨g, 0, none⟩) n n) ∧ InTo w w' g n es es.length 0 := by
  have HS := Lib.hid hs
  have hmk := make_slices n (by omega) w
  have HI0 : Hid (InTo w (w.alloc (.cells (rowArr n nilS) 29)) w.heap.size n es 0 0) :=
    ⟨⟨_, _, InAt.new w n, fun x e _ => by rw [cnt_start]; simp, fun x _ => by simp⟩, (Below.refl _ _).alloc (Nat.le_refl _) _⟩
  clear hs
  go_enter Try.func28, Try.ntmps28
  go_wp2_with fail
  obtain ⟨w0, hw0⟩ : ∃ w0, w0 = w.alloc (.cells (rowArr n nilS) 29) := ⟨_, rfl⟩
  obtain ⟨g, hg⟩ : ∃ g, g = w.heap.size := ⟨_, rfl⟩
  rw [← hg, ← hw0] at HI0 ⊢
  clear hg hw0 hmk
  go_loopw [14] (fun i wr => ∃ k : Nat, k ≤ es.length ∧ i = .int .i64 k ∧ Hid (InTo w wr g n es k 0)) (fun i _ => es.length - (intOf i).toNat)
  case atStart => exact ⟨0, by omega, rfl, HI0⟩
  case round =>
    obtain ⟨k, hk, rfl, HI⟩ := hrel
    clear HI0
    by_cases hlt : k < es.length
    · obtain ⟨b, off, rfl, hb, a', c', hc0, hcr⟩ := er_one HS.out hlt
      have hc := (HI.out.low.cell (p := ⟨b, off + k, none⟩) hb).trans hc0
      have hlk := hcr.lt
      have HC := Lib.hid hcr
      have hl1 := hl _ (List.getElem_mem hlt)
      have HR : Hid (∀ c ∈ es[k], 0 ≤ c.1 ∧ c.1 < (n : Int)) := hr _ (List.getElem_mem hlt)
      have HX : Hid (∀ j, (hj : j < es[k].length) → ∀ p, es[k][j].1.toNat = p → ∀ e x, cnt es k (j + 1) e x = cnt es k j e x + (if x = p ∧ e = k then 1 else 0)) := fun j hj p hp e x => cnt_next hlt hj hp e x
      have HX2 := Lib.hid (cnt_round hlt)
      clear hcr hc0
      generalize es[k] = x at *
      obtain ⟨W1, rfl⟩ : ∃ x, x = wr := ⟨_, rfl⟩
      have HJ0 : Hid (InTo w W1 g n es k 0) := HI
      have HB0 : Hid (Below W1.heap.size W1 W1) := Below.refl _ _
      go_wp2_with fail
      go_loopw [21] (fun i wr => ∃ j : Nat, j ≤ x.length ∧ i = .int .i64 j ∧ Hid (InTo w wr g n es k j) ∧ Hid (Below w.heap.size w wr)) (fun i _ => x.length - (intOf i).toNat)
      case atStart => exact ⟨0, by omega, rfl, HJ0, HI.out.low⟩
      case round =>
        obtain ⟨j, hj, rfl, HJ, HB⟩ := hrel
        clear HJ0 HB0
        by_cases hlj : j < x.length
        · obtain ⟨b', off', rfl, hb', hc'⟩ := (HC.out.below HB.out).some hlj
          obtain ⟨c0, c1⟩ := hc' j hlj
          obtain ⟨r1, r2⟩ := HR.out _ (List.getElem_mem hlj)
          obtain ⟨p, hp⟩ : ∃ p : Nat, x[j].1 = (p : Int) := ⟨x[j].1.toNat, by omega⟩
          have HX3 := Lib.hid (HX.out j hlj p (by omega))
          obtain ⟨y, hy⟩ : ∃ y : Nat, y = x[j].2 := ⟨_, rfl⟩
          rw [hp] at c0 r2
          rw [← hy] at c1
          have b0 : b' < wr.heap.size := World.block_lt_of_cell? wr _ c0
          have hpn : p < n := by omega
          have hpz : (p : Int) < (n : Int) := by omega
          have hkz : (k : Int) ≤ 1000 := by omega
          clear hc' hp hy r1
          obtain ⟨⟨vs, L, h1, h2, h3⟩, h4⟩ := HJ.out
          have hL := h3 p hpn
          obtain ⟨wd, hwd⟩ : ∃ wd, wd = (wr.alloc (.cells #[.int .i64 (p : Int), .int .u8 (y : Int)] 42)).drew := ⟨_, rfl⟩
          have HBD : Hid (Below wr.heap.size wr wd) := by subst hwd; exact ((Below.refl _ _).alloc (Nat.le_refl _) _).drew
          have k0' : wd.cell? ⟨wr.heap.size, 0, none⟩ = some (.int .i64 (p : Int)) := by subst hwd; show (wr.alloc _).cell? _ = _; simp
          have hsz : wr.heap.size < wd.heap.size := by subst hwd; show wr.heap.size < (wr.alloc _).heap.size; simp
          have I1 := Lib.hid (h1.keep HBD.out)
          have hvb : (vs p).ownBlock ≠ some wr.heap.size := fun e => by have := h1.low hpn e; omega
          have hgl := h1.row.lt
          have hne := h1.ne hpn
          have k0 : ∀ q : KeepW wd (fun b => (vs p).ownBlock = some b), q.v.cell? ⟨wr.heap.size, 0, none⟩ = some (.int .i64 (p : Int)) := fun q => (q.cell hsz hvb).trans k0'
          have k1 : ∀ q : KeepW wd (fun b => (vs p).ownBlock = some b), q.v.cell? ⟨g, p, none⟩ = some (vs p) := fun q => (q.cell (Nat.lt_of_lt_of_le hgl HBD.out.size) hne).trans (I1.out.row.cell p hpn)
          have H2 := Lib.hid h2
          have H3 := Lib.hid h3
          have HW := Lib.hid (h4.trans (HBD.out.mono h4.size))
          obtain ⟨v, hv⟩ : ∃ v, v = vs p := ⟨_, rfl⟩
          rw [← hv] at k0 k1 hvb
          clear h1 h2 h3 h4 HJ hne
          go_wp2_with fail
          refine growK_begin 12 (fun w' => ∃ p : KeepW wd (fun b => v.ownBlock = some b), w' = p.v) (by kernel_rfl) ?_
          rw [← hwd]
          have HV := Lib.hid hv
          clear hwd hv
          refine growK_take (by kernel_rfl) [0, 1, 2, 3, 4, 5, 6, 7, 8] 4 _ _ (by kernel_rfl) _ (keep_class (Fr.refl _ _)) ?_
          simp only [opsAt, List.getElem?_toArray, List.getElem?_cons_succ, List.getElem?_cons_zero]
          repeat (first | go_big_quiet_step (fail) | quiet_step (fail))
          refine wpQuiet_nil ?_
          have HB5 : Hid (Below wd.heap.size wd (wd.alloc (.cells #[.int .i64 (k : Int)] 3))) := (Below.refl _ _).alloc (Nat.le_refl _) _
          have I2 := Lib.hid (I1.out.keep HB5.out)
          refine growK_one 9 (by kernel_rfl) (fun K hK => ?_)
          simp only [stepOf, List.getElem?_toArray, List.getElem?_cons_succ, List.getElem?_cons_zero]
          go_simp
          refine hK.out _ _ (keep_class (Fr.of_below HB5.out)) ?_
          clear hK K
          refine growK_one 10 (by kernel_rfl) (fun K hK => ?_)
          simp only [stepOf, List.getElem?_toArray, List.getElem?_cons_succ, List.getElem?_cons_zero]
          rw [if_pos (by rfl)]
          refine wp_push_n _ (.tmp 32) (.tmp 34) rfl w.heap.size v (L p) rfl (by rw [HV.out]; exact I2.out.own p hpn) wd.heap.size rfl k (by simp) (Nat.le_trans HW.out.size HB5.out.size) (by omega) ?_
          intro v' w5 o5 g5 e5
          rw [HV.out] at g5 e5
          have I3 := Lib.hid (I2.out.push hpn o5.out g5.out e5.out)
          have F5 : Hid (Fr (fun b => v.ownBlock = some b) wd w5) := by rw [HV.out]; exact (Fr.of_below HB5.out).trans (Fr.of_grown g5.out fun b e => e)
          refine hK.out _ _ (keep_class F5.out) ?_
          clear hK K
          obtain ⟨gg, cp, rfl, _⟩ := row_of_own (by simp) o5.out
          have K2 := k1 ⟨w5, F5.out⟩
          have z2 : w5.frozen? ⟨g, p, none⟩ = false := by
            obtain ⟨cs, r1, _, _⟩ := I1.out.row
            exact KeepW.loose ⟨w5, F5.out⟩ (Nat.lt_of_lt_of_le hgl HBD.out.size) (by rw [HV.out]; exact I1.out.ne hpn) r1
          simp only at K2
          refine growK_take (by kernel_rfl) [11] 1 _ _ (by kernel_rfl) _ (keep_class F5.out) ?_
          simp only [opsAt, List.getElem?_toArray, List.getElem?_cons_succ, List.getElem?_cons_zero]
          repeat (first | go_big_quiet_step (fail) | quiet_step (fail))
          refine wpQuiet_nil ?_
          clear k0 k1 k0'
          refine growK_last (by kernel_rfl) (by kernel_rfl) (fun K hK => ?_)
          simp only [stepOf, List.getElem?_toArray, List.getElem?_cons_succ, List.getElem?_cons_zero]
          go_simp
          refine hK.out _ _ ?_
          have HN : Hid (InTo w (w5.setCell ⟨g, p, none⟩ (.slice (some ⟨gg, 0, none⟩) (L p ++ [k]).length cp)) g n es k (j + 1)) := by
            have hgh : w.heap.size ≤ g := I1.out.hi
            refine ⟨⟨_, _, I3.out, fun y e hy => ?_, fun y hy => ?_⟩, HW.out.trans ?_⟩
            · rw [HX3.out]
              show (if y = p then _ else _ : List Nat).count e = _
              by_cases hyp : y = p
              · subst hyp
                rw [if_pos rfl, List.count_append, H2.out y e hy]
                congr 1
                by_cases hek : e = k
                · subst hek; simp
                · rw [if_neg (fun h => hek h.2), List.count_eq_zero]; simpa using hek
              · rw [if_neg hyp, if_neg (fun h => hyp h.1), H2.out y e hy]
                rfl
            · show (if y = p then _ else _ : List Nat).length ≤ _
              have := H3.out y hy
              by_cases hyp : y = p
              · subst hyp; rw [if_pos rfl, List.length_append]; simp; omega
              · rw [if_neg hyp]; omega
            · refine (F5.out.below HW.out.size fun b hb hx => ?_).setCell (p := ⟨g, p, none⟩) hgh _
              rw [HV.out] at hx
              have := own_hi (I1.out.own p hpn) hx
              omega
          have HN2 : Hid (InTo w (w5.setCell ⟨g, p, none⟩ (.slice (some ⟨gg, 0, none⟩) ((L p).length + 1) cp)) g n es k (j + 1)) := by
            have h := HN.out
            rw [List.length_append] at h
            exact h
          clear hK K HN
          go_wp2_with fail
          go_roundw
          case rel => exact ⟨j + 1, by omega, by go_num, HN2, HN2.out.low⟩
          case measure => simp [intOf]; omega
        · obtain rfl : j = x.length := by omega
          have HN : Hid (InTo w wr g n es (k + 1) 0) := by
            obtain ⟨⟨vs, L, h1, h2, h3⟩, h4⟩ := HJ.out
            exact ⟨⟨vs, L, h1, fun y e hy => by rw [HX2.out]; exact h2 y e hy, fun y hy => by have := h3 y hy; omega⟩, h4⟩
          clear HJ
          go_wp2_with fail
          go_roundw
          case rel => exact ⟨k + 1, by omega, by go_num, HN⟩
          case measure => simp [intOf]; omega
    · obtain rfl : k = es.length := by omega
      go_wp2_with fail
      go_ret
      exact ⟨g, rfl, HI.out⟩
end Go.Proofs.Ytacncbojplmcjaa
end
