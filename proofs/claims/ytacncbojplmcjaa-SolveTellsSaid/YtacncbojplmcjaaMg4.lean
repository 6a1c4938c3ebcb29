/-
  Equations as rows of numbers: the document's Dense.
  A statement that leaves its order open and makes memory: its operations that only read are taken as soon as they may come up, its calls one by one; behind each call the knowledge of the world grows. Nothing of the program's dump is named here.
  The document's Symbol.
  Inverses of numbers below 256: plain mathematics.
  Vectors over the numbers of layer 3, what they span, and echelon forms: plain mathematics; nothing of the program is named here.
  What package vector's Zero answers of any bytes.
-/
import Derived.Test.YtacncbojplmcjaaMg3
import Derived.BigRegion
import Derived.Deep.RegionHeld3
import Derived.Deep.QuietTactic
import Derived.BigQuiet
import Derived.Lib.QuietBelow
section
namespace Go.Proofs.Ytacncbojplmcjaa
open Go.ChangeShapes Go.WideShapes Go.ChangeAt Go.RowKit Go.Joins
set_option linter.unusedVariables false

/-- A row of n numbers into which the first k cells are put. -/
def rowK (n : Nat) (l : Cz) (k : Nat) : List Nat := (l.take k).foldl (fun r c => r.set c.1.toNat c.2) (List.replicate n 0)
theorem foldl_set_len (l : Cz) : ∀ r : List Nat, (l.foldl (fun r c => r.set c.1.toNat c.2) r).length = r.length := by
  induction l with
  | nil => intro r; rfl
  | cons c l ih => intro r; rw [List.foldl_cons, ih, List.length_set]
theorem rowK_len (n : Nat) (l : Cz) (k : Nat) : (rowK n l k).length = n := by
  unfold rowK; rw [foldl_set_len, List.length_replicate]
theorem rowK_next {n : Nat} {l : Cz} {k : Nat} (h : k < l.length) : rowK n l (k + 1) = (rowK n l k).set l[k].1.toNat l[k].2 := by
  unfold rowK
  rw [List.take_succ_eq_append_getElem h, List.foldl_append]
  rfl
theorem rowK_byte {n : Nat} {l : Cz} (hl : ∀ c ∈ l, c.2 < 256) : ∀ k, k ≤ l.length → IsByte (rowK n l k)
  | 0, _ => by intro x hx; have : x = 0 := (List.mem_replicate.1 hx).2; omega
  | k + 1, hk => by
    rw [rowK_next (by omega)]
    intro x hx
    rcases List.mem_or_eq_of_mem_set hx with h | h
    · exact rowK_byte hl k (by omega) x h
    · rw [h]; exact hl _ (List.getElem_mem (by omega))
/-- An equation as a row of n numbers. -/
def rowOf (n : Nat) (l : Cz) : List Nat := rowK n l l.length
def rowsOf (n : Nat) (es : Eqz) (k : Nat) : Rws := (es.take k).map (rowOf n)
theorem rowsOf_next {n : Nat} {es : Eqz} {k : Nat} (h : k < es.length) : rowsOf n es (k + 1) = rowsOf n es k ++ [rowOf n es[k]] := by
  unfold rowsOf
  rw [List.take_succ_eq_append_getElem h, List.map_append]
  rfl
theorem rowsOf_len {n : Nat} {es : Eqz} {k : Nat} (h : k ≤ es.length) : (rowsOf n es k).length = k := by
  unfold rowsOf; simp; omega

/-- A row that is filled, in a block of its own. -/
structure RowAt (W wr : World) (n : Nat) (l : List Nat) : Prop where
  row : Row wr W.heap.size 5 n n (vOf l)
  low : Below W.heap.size W wr
theorem RowAt.set {W wr : World} {n : Nat} {l : List Nat} (h : RowAt W wr n l) (hl : l.length = n) {k : Nat} (hk : k < n) (v : Nat) : RowAt W (wr.setCell ⟨W.heap.size, k, none⟩ (.int .u8 (v : Int))) n (l.set k v) := by
  refine ⟨?_, h.low.setCell (p := ⟨W.heap.size, k, none⟩) (Nat.le_refl _) _⟩
  refine (h.row.upd k hk _).mono (Nat.le_refl _) fun j hj => ?_
  have hjs : j < (l.set k v).length := by rw [List.length_set]; omega
  rw [vOf_eq _ _ hjs]
  by_cases e : j = k
  · subst e; simp
  · rw [if_neg e, vOf_eq l j (by omega)]
    rw [List.getElem_set_ne (fun h => e h.symm)]
theorem RowAt.drawn {W wr : World} {n : Nat} {l : List Nat} (h : RowAt W wr n l) : RowAt W wr.drew n l := ⟨h.row, h.low.drew⟩

set_option maxRecDepth 1000000 in
set_option maxHeartbeats 8000000 in
theorem dense_any (a : Option Addr) (cap : Nat) (es : Eqz) (n : Nat) (hn : n ≤ 1000) (w : World) (hs : Er w a cap es) (hm : es.length ≤ 1000) (hr : ∀ l ∈ es, ∀ c ∈ l, 0 ≤ c.1 ∧ c.1 < (n : Int)) :
    Calls Try.prog 11 #[.slice a es.length cap, .int .i64 (n : Int)] w fun e w' => ∃ v, e = .returned v ∧ Own w.heap.size w' v (rowsOf n es es.length) ∧ Below w.heap.size w w' := by
  have HS := Lib.hid hs
  have hmk := make_row n (by omega)
  have HO0 : Hid (Own w.heap.size w (.slice none 0 0) (rowsOf n es 0)) := Own.nil _ _
  have HB0 : Hid (Below w.heap.size w w) := Below.refl _ _
  clear hs
  go_enter Try.func11, Try.ntmps11
  go_wp2_with fail
  go_loopw [5, 11] (fun v i wr => ∃ k : Nat, k ≤ es.length ∧ i = .int .i64 k ∧ Hid (Own w.heap.size wr v (rowsOf n es k)) ∧ Hid (Below w.heap.size w wr)) (fun _ i _ => es.length - (intOf i).toNat)
  case atStart => exact ⟨0, by omega, rfl, HO0, HB0⟩
  case round =>
    obtain ⟨k, hk, rfl, HO, HB⟩ := hrel
    clear HO0 HB0
    by_cases hlt : k < es.length
    · obtain ⟨b, off, rfl, hb, a', c', hc0, hcr⟩ := er_one HS.out hlt
      have hc := (HB.out.cell (p := ⟨b, off + k, none⟩) hb).trans hc0
      have hlk := hcr.lt
      have HC := Lib.hid hcr
      have HR : Hid (∀ c ∈ es[k], 0 ≤ c.1 ∧ c.1 < (n : Int)) := hr _ (List.getElem_mem hlt)
      have HN := Lib.hid (rowsOf_next (n := n) hlt)
      have HLB := Lib.hid (rowsOf_len (n := n) (es := es) (k := k) hk)
      clear hcr hc0
      generalize es[k] = x at *
      obtain ⟨W1, rfl⟩ : ∃ x, x = wr := ⟨_, rfl⟩
      have HA0 : Hid (RowAt W1 (W1.alloc (.cells (rowArr n zV) 5)) n (rowK n x 0)) := ⟨Row.new_whole W1 _ 5 _ _ _ rfl (by
        unfold rowK
        unfold rowArr
        congr 1
        apply List.map_congr_left
        intro j hj
        have := List.mem_range.1 hj
        rw [vOf_eq _ _ (by simp; exact this)]
        simp [zV]), (Below.refl _ _).alloc (Nat.le_refl _) _⟩
      have hb1 : b < W1.heap.size := Nat.lt_of_lt_of_le hb HB.out.size
      have hc2 := (((Below.refl W1.heap.size W1).alloc (Nat.le_refl _) (.cells (rowArr n zV) 5)).cell (p := ⟨b, off + k, none⟩) hb1).trans hc
      go_wp2_with fail
      obtain ⟨w0, hw0⟩ : ∃ w0, w0 = W1.alloc (.cells (rowArr n zV) 5) := ⟨_, rfl⟩
      rw [← hw0] at HA0 hc2 ⊢
      clear hw0
      go_loopw [21] (fun i wr => ∃ j : Nat, j ≤ x.length ∧ i = .int .i64 j ∧ Hid (RowAt W1 wr n (rowK n x j))) (fun i _ => x.length - (intOf i).toNat)
      case atStart => exact ⟨0, by omega, rfl, HA0⟩
      case round =>
        obtain ⟨j, hj, rfl, HA⟩ := hrel
        clear HA0
        by_cases hlj : j < x.length
        · obtain ⟨b', off', rfl, hb', hc'⟩ := HC.out.some hlj
          obtain ⟨c0, c1⟩ := hc' j hlj
          obtain ⟨r1, r2⟩ := HR.out _ (List.getElem_mem hlj)
          have HX := Lib.hid (rowK_next (n := n) hlj)
          have HBW := Lib.hid (HB.out.trans (HA.out.low.mono HB.out.size))
          have d0 := (HBW.out.cell (p := ⟨b', off' + j * 2, none⟩) hb').trans c0
          have d1 := (HBW.out.cell (p := ⟨b', off' + j * 2 + 1, none⟩) hb').trans c1
          have dc := (HA.out.low.cell (p := ⟨b, off + k, none⟩) hb1).trans hc
          obtain ⟨p, hp⟩ : ∃ p : Nat, x[j].1 = (p : Int) := ⟨x[j].1.toNat, by omega⟩
          have hpt : x[j].1.toNat = p := by omega
          rw [hpt] at HX
          obtain ⟨y, hy⟩ : ∃ y : Nat, y = x[j].2 := ⟨_, rfl⟩
          rw [hp] at d0 r2
          rw [← hy] at d1 HX
          have hpn : p < n := by omega
          have hpz : (p : Int) < (n : Int) := by omega
          have hkz : (k : Int) < (es.length : Int) := by omega
          have hjz : (j : Int) < (x.length : Int) := by omega
          obtain ⟨uu, hu⟩ := HA.out.row.has p hpn
          have zu := HA.out.row.loose p
          have HAN : Hid (RowAt W1 ((wr.setCell ⟨W1.heap.size, p, none⟩ (.int .u8 (y : Int))).drew) n (rowK n x (j + 1))) := by
            rw [HX.out]
            exact (HA.out.set (rowK_len _ _ _) hpn y).drawn
          clear hc' c0 c1 hp hpt hy r1 HX HBW HA
          go_wp2_with fail
          go_region
          go_wp2_with fail
          go_roundw
          case rel => exact ⟨j + 1, by omega, by go_num, HAN⟩
          case measure => simp [intOf]; omega
        · obtain rfl : j = x.length := by omega
          have hbt : IsByte (rowOf n x) := rowK_byte (fun c hc => (HC.out.rng c hc).2.2) _ (Nat.le_refl _)
          have hlr : (rowOf n x).length = n := rowK_len _ _ _
          have HRW : Hid (Rw w.heap.size wr (some ⟨W1.heap.size, 0, none⟩) n (rowOf n x)) := ⟨HA.out.row.sl hlr hbt (by unfold maxLen; omega), fun _ p hp => by
            cases hp
            obtain ⟨cs, h1, _, _⟩ := HA.out.row
            exact .inr ⟨cs, _, h1⟩⟩
          have HLR := Lib.hid hlr
          have HO1 := Lib.hid (HO.out.keep HA.out.low)
          have HB1 := Lib.hid (HB.out.trans (HA.out.low.mono HB.out.size))
          generalize rowOf n x = m at *
          have hlen : (rowsOf n es k).length ≤ 100000 := by rw [HLB.out]; omega
          clear HA HO hbt hlr hlj
          obtain ⟨W3, rfl⟩ : ∃ x, x = wr := ⟨_, rfl⟩
          go_wp2_with (at_builtin; refine wpList_push_rows _ rfl _ _ rfl w.heap.size _ _ rfl (HO1.out.keep ((Below.refl _ _).alloc (Nat.le_refl _) _)) W3.heap.size rfl (some ⟨W1.heap.size, 0, none⟩) n m (by rw [HLR.out]; simp) (HRW.out.below ((Below.refl _ _).alloc (Nat.le_refl _) _)) (by have := HB1.out.size; simp; omega) hlen ?_; intro v' w2 HO2 hk2; have HB2 := Lib.hid ((HB1.out.alloc HB1.out.size _).trans (hk2.below (by have := HB1.out.size; simp; omega))); clear hk2)
          go_roundw
          case rel => exact ⟨k + 1, by omega, by go_num, by rw [HN.out]; exact HO2, HB2⟩
          case measure => simp [intOf]; omega
    · obtain rfl : k = es.length := by omega
      go_wp2_with fail
      go_ret
      exact ⟨_, rfl, HO.out, HB.out⟩
end Go.Proofs.Ytacncbojplmcjaa
end

section
namespace Go.Proofs.Ytacncbojplmcjaa
open Go.RowKit Go.Sort
set_option linter.unusedVariables false

/-- An operation that yields a value, if it yields anything. -/
def plainOp : Op → Bool
  | .move _ | .assign _ | .pick .. | .nilCheck .. | .load .. | .binOp .. | .unOp .. | .convert .. | .makeInterface .. | .slice .. | .fieldAddr .. | .field .. | .indexAddr .. | .index .. | .lookup .. | .extract .. => true
  | .call c => match c.callee with | .builtin .len | .builtin .min | .builtin .max => true | _ => false
  | _ => false

section
variable {P : Program} {ops : Array Oper} {Q : Exit → Act → World → Prop} {C : World → Prop}

theorem run_value {s : Sem Value} {w w' : World} {n : Next} (h : (do pure (Next.value (← s)) : Sem Next).run P w = .ok n w') : ∃ v, n = .value v := by
  rw [Sem.run_bind] at h
  cases hs : s.run P w with
  | ok x w1 =>
    rw [hs] at h
    simp only [Result.andThen, Sem.run_pure] at h
    cases h
    exact ⟨_, rfl⟩
  | halt x w1 =>
    rw [hs] at h
    simp [Result.andThen] at h

theorem val_bind {β : Type} {s : Sem β} {f : β → Sem Next} (hf : ∀ b w1 w2 n, (f b).run P w1 = .ok n w2 → ∃ v, n = .value v) {w w' : World} {n : Next} (h : (s >>= f).run P w = .ok n w') : ∃ v, n = .value v := by
  rw [Sem.run_bind] at h
  cases hs : s.run P w with
  | ok x w1 =>
    rw [hs] at h
    exact hf x w1 w' n h
  | halt x w1 =>
    rw [hs] at h
    simp [Result.andThen] at h
theorem val_pure {v : Value} {w w' : World} {n : Next} (h : (pure (Next.value v) : Sem Next).run P w = .ok n w') : ∃ v, n = .value v := by
  rw [Sem.run_pure] at h; cases h; exact ⟨_, rfl⟩

theorem plain_value {o : Oper} {ρ : Operand → Value} {w w' : World} {n : Next} (hp : plainOp o.op = true) (h : (execOp ρ o).run P w = .ok n w') : ∃ v, n = .value v := by
  obtain ⟨dst, op, type, pos, after, guard⟩ := o
  cases op <;> simp only [plainOp, Bool.false_eq_true] at hp <;> simp only [execOp] at h
  case move x => rw [Sem.run_pure] at h; cases h; exact ⟨_, rfl⟩
  case assign x => rw [Sem.run_pure] at h; cases h; exact ⟨_, rfl⟩
  case nilCheck x =>
    split at h
    · simp [runtimePanic, goPanic, go_sem] at h
    · simp [runtimePanic, goPanic, go_sem] at h
    · simp [runtimePanic, goPanic, go_sem] at h
    · split at h
      · simp [runtimePanic, goPanic, go_sem] at h
      · refine val_bind (fun b w1 w2 n h => ?_) h
        refine val_bind (fun b w1 w2 n h => ?_) h
        split at h
        · exact val_bind (fun b w1 w2 n h => val_pure h) h
        · exact val_pure h
      · exact val_pure h
    · exact val_pure h
  case call c =>
    cases hc : c.callee <;> simp only [hc, Bool.false_eq_true] at hp
    rename_i b
    cases b <;> simp only [Bool.false_eq_true] at hp
    all_goals simp only [resolve, hc] at h
    all_goals first | exact run_value (s := Builtin.len_ _ _ _) h | exact run_value (s := Builtin.min_ _ _ _) h | exact run_value (s := Builtin.max_ _ _ _) h
  case pick x y z =>
    rw [Sem.run_bind] at h
    cases hs : (asBool (ρ x)).run P w with
    | ok q w1 =>
      rw [hs] at h
      simp only [Result.andThen, Sem.run_pure] at h
      cases h
      exact ⟨_, rfl⟩
    | halt q w1 =>
      rw [hs] at h
      simp [Result.andThen] at h
  all_goals exact run_value h

/-- The operations of this list may come up one behind the other, each apart from all that don't wait for it, each plain. -/
def takesB (ops : Array Oper) : List Nat → Array Bool → Bool
  | [], _ => true
  | i :: is, listed => (Region.ready .any ops listed).contains i && Region.free .any ops listed i && ((ops[i]?).map fun o => plainOp o.op).getD false && takesB ops is (listed.setIfInBounds i true)
def marks : List Nat → Array Bool → Array Bool
  | [], listed => listed
  | i :: is, listed => marks is (listed.setIfInBounds i true)
def opsAt (ops : Array Oper) : List Nat → List Oper
  | [] => []
  | i :: is => match ops[i]? with
    | some o => o :: opsAt ops is
    | none => opsAt ops is

theorem yieldsIf_of_quiet {o : Oper} {a : Act} {v : Value} (hp : plainOp o.op = true) (hw : Region.wanted o (yielded ops a.tmps) = true) (h : ∀ w, C w → o.quietAt P a C w v) : YieldsIf P ops C o v a := by
  refine .inl ⟨hw, fun w hC => ?_⟩
  have h1 := h w hC
  unfold Oper.quietAt at h1
  cases hr : (execOp a.eval o).run P w with
  | ok n w' =>
    rw [hr] at h1
    obtain ⟨u, rfl⟩ := plain_value hp hr
    simp only [Oper.quietUpon] at h1
    rw [h1.1, h1.2]
  | halt x w' =>
    rw [hr] at h1
    simp only [Oper.quietUpon] at h1

/-- Plain operations, as soon as they may come up. -/
theorem grow_take (hs : Region.noSelect ops = true) : ∀ (is : List Nat) (n : Nat) (listed : Array Bool) (a : Act), takesB ops is listed = true →
    wpQuiet P ops C (fun a' => ∀ w, C w → wpAnyH P .any ops (NoPanic Q) C n (marks is listed) a' w) (opsAt ops is) a → ∀ w, C w → wpAnyH P .any ops (NoPanic Q) C (n + is.length) listed a w
  | [], n, listed, a, _, h, w, hw => h w hw
  | i :: is, n, listed, a, hB, h, w, hw => by
    simp only [takesB, Bool.and_eq_true] at hB
    obtain ⟨⟨⟨hr, hf⟩, hp⟩, hB'⟩ := hB
    cases ho : ops[i]? with
    | none => rw [ho] at hp; simp at hp
    | some o =>
      rw [ho] at hp
      have hp' : plainOp o.op = true := by simpa using hp
      simp only [opsAt, ho, wpQuiet] at h
      have key : ∃ v, YieldsIf P ops C o v a ∧ wpQuiet P ops C (fun a' => ∀ w, C w → wpAnyH P .any ops (NoPanic Q) C n (marks is (listed.setIfInBounds i true)) a' w) (opsAt ops is) (a.put o.dst v) := by
        by_cases hwt : Region.wanted o (yielded ops a.tmps) = true
        · rw [if_pos hwt] at h
          obtain ⟨v, h1, h2⟩ := h
          exact ⟨v, yieldsIf_of_quiet hp' hwt h1, h2⟩
        · rw [if_neg hwt] at h
          exact ⟨undef, .inr ⟨by simpa using hwt, rfl⟩, h⟩
      obtain ⟨v, hy, hq⟩ := key
      exact wpAnyH_take ho hs hf hr (fun _ _ _ h => h) hy hw (grow_take hs is n (listed.setIfInBounds i true) (a.put o.dst v) hB' hq w hw)

/-- To know more is no harm. -/
theorem wpAnyH_strong {C' : World → Prop} (h : ∀ w, C' w → C w) : ∀ (n : Nat) (listed : Array Bool) (a : Act) (w : World), wpAnyH P .any ops Q C' n listed a w → wpAnyH P .any ops Q C n listed a w
  | 0, _, _, _, hh => hh
  | n + 1, _, _, _, hh => ⟨hh.1, fun i hi => wpOp_mono (fun a' w' ⟨h1, h2⟩ => ⟨h _ h1, wpAnyH_strong h n _ a' w' h2⟩) (hh.2 i hi)⟩

/-- All worlds that come out of w by making memory. -/
def upOf (w : World) (w' : World) : Prop := ∃ p : Regrown, w' = grow (redrawn w p.d) p.os

theorem up_of_below {w w' : World} (h : Below w.heap.size w w') : ∃ p : Regrown, w' = grow (redrawn w p.d) p.os := regrown_of_below h
theorem below_of_up {w w' : World} (h : ∃ p : Regrown, w' = grow (redrawn w p.d) p.os) : Below w.heap.size w w' := by
  obtain ⟨p, rfl⟩ := h
  exact below_regrown w p.d p.os

/-- The beginning. -/
theorem grow_begin {id : Nat} {a : Act} {w : World} {l : List Oper} (hm : P.follows .mixedOrders = true)
    (h : ∀ w', (∃ p : Regrown, w' = grow (redrawn w p.d) p.os) → wpAnyH P .any l.toArray (NoPanic Q) (fun w' => ∃ p : Regrown, w' = grow (redrawn w p.d) p.os) l.length (Array.replicate l.length false) a w') : (Code.region id l.toArray true).wp P Q a w := by
  refine wp_region_noPanic (wp_region_held_drew (S := fun w' => ∃ p : Regrown, w' = grow (redrawn w p.d) p.os) hm ?_ fun hS => ?_)
  · exact regrown_of_below ((Below.refl _ _).drew)
  · have := h w.drew hS
    simpa using this

/-- What is asked of operation o. -/
def stepOf (P : Program) (ops : Array Oper) (Q : Exit → Act → World → Prop) (K : Act → World → Prop) (a : Act) (w : World) : Option Oper → Prop
  | none => False
  | some o => if Region.wanted o (yielded ops a.tmps) = true then Oper.wp P o a w K Q else K (a.put o.dst undef) w

/-- Whichever of those that may come up comes up: behind it the worlds are those that come out of the world there. -/
theorem grow_all (rs : List Nat) {n : Nat} {listed : Array Bool} {a : Act} {w0 w : World} (hr : Region.ready .any ops listed = rs) (hne : rs ≠ []) (hw : ∃ p : Regrown, w = grow (redrawn w0 p.d) p.os)
    (h : ∀ i ∈ rs, ∀ K : Act → World → Prop, Shut (∀ a' w1, Below w.heap.size w w1 → (∀ w', (∃ p : Regrown, w' = grow (redrawn w1 p.d) p.os) → wpAnyH P .any ops (NoPanic Q) (fun w' => ∃ p : Regrown, w' = grow (redrawn w1 p.d) p.os) n (listed.setIfInBounds i true) a' w') → K a' w1) →
      stepOf P ops (NoPanic Q) K a w ops[i]?) : wpAnyH P .any ops (NoPanic Q) (fun w' => ∃ p : Regrown, w' = grow (redrawn w0 p.d) p.os) (n + 1) listed a w := by
  refine wpAnyH_all hr hne fun j hj => ?_
  have hb0 := below_of_up hw
  have hs := h j hj (fun a' w' => (∃ p : Regrown, w' = grow (redrawn w0 p.d) p.os) ∧ wpAnyH P .any ops (NoPanic Q) (fun w' => ∃ p : Regrown, w' = grow (redrawn w0 p.d) p.os) n (listed.setIfInBounds j true) a' w') (fun a' w1 hb hh => by
    have hb1 : Below w0.heap.size w0 w1 := hb0.trans (hb.mono hb0.size)
    exact ⟨regrown_of_below hb1, wpAnyH_strong (fun w' hw' => regrown_of_below (hb1.trans ((below_of_up hw').mono hb1.size))) _ _ _ _ (hh w1 (regrown_of_below (Below.refl _ _)))⟩)
  unfold wpOp
  cases ho : ops[j]? with
  | none => rw [ho] at hs; exact hs.elim
  | some o =>
    rw [ho] at hs
    simp only [stepOf] at hs
    show if Region.wanted o (yielded ops a.tmps) = true then _ else _
    by_cases hwt : Region.wanted o (yielded ops a.tmps) = true
    · rw [if_pos hwt] at hs ⊢; exact .inl hs
    · rw [if_neg hwt] at hs ⊢; exact hs

/-- One operation that alone may come up. -/
theorem grow_one (i : Nat) {n : Nat} {listed : Array Bool} {a : Act} {w0 w : World} (hr : Region.ready .any ops listed = [i]) (hw : ∃ p : Regrown, w = grow (redrawn w0 p.d) p.os)
    (h : ∀ K : Act → World → Prop, Shut (∀ a' w1, Below w.heap.size w w1 → (∀ w', (∃ p : Regrown, w' = grow (redrawn w1 p.d) p.os) → wpAnyH P .any ops (NoPanic Q) (fun w' => ∃ p : Regrown, w' = grow (redrawn w1 p.d) p.os) n (listed.setIfInBounds i true) a' w') → K a' w1) →
      stepOf P ops (NoPanic Q) K a w ops[i]?) : wpAnyH P .any ops (NoPanic Q) (fun w' => ∃ p : Regrown, w' = grow (redrawn w0 p.d) p.os) (n + 1) listed a w :=
  grow_all [i] hr (by simp) hw fun j hj => by
    obtain rfl : j = i := by simpa using hj
    exact h

/-- All have come up. -/
theorem grow_done {n : Nat} {listed : Array Bool} {a : Act} {w0 w : World} (hr : Region.ready .any ops listed = []) (h : Q .normal a w) : wpAnyH P .any ops (NoPanic Q) (fun w' => ∃ p : Regrown, w' = grow (redrawn w0 p.d) p.os) n listed a w :=
  wpAnyH_done hr (NoPanic.normal h) n

end
end Go.Proofs.Ytacncbojplmcjaa
end

section
namespace Go.Proofs.Ytacncbojplmcjaa
open Go.ChangeShapes Go.WideShapes Go.ChangeAt Go.RowKit Go.Joins
set_option linter.unusedVariables false

theorem zeros_arr (n : Nat) : rowArr n zV = rowArr n (vOf (List.replicate n 0)) := by
  apply Array.ext
  · simp [rowArr]
  · intro i h1 h2
    have hi : i < n := by simpa [rowArr] using h1
    simp [rowArr, zV, vOf, byteV, hi]
theorem zeros_new (w : World) (n : Nat) : NewTo w (w.alloc (.cells (rowArr n zV) 5)) (List.replicate n 0) n :=
  NewTo.of_whole (by simp) ((Below.refl _ _).alloc (Nat.le_refl _) _) (by rw [← zeros_arr]; exact heap_alloc_new w _)
theorem zeros_byte (n : Nat) : IsByte (List.replicate n 0) := fun x hx => by
  have := (List.mem_replicate.1 hx).2; omega
theorem zeros_rw (B : Nat) (w : World) (n : Nat) (h : n ≤ 1000000) : Rw B (w.alloc (.cells (rowArr n zV) 5)) (some ⟨w.heap.size, 0, none⟩) n (List.replicate n 0) := by
  have := Rw.of_new (B := B) (by rw [List.length_replicate]; exact zeros_new w n) (zeros_byte n) (by rw [List.length_replicate]; exact h)
  rw [List.length_replicate] at this
  exact this

theorem rw_of {B : Nat} {W w : World} {m : List Nat} {n : Nat} (h : NewTo W w m n) (hl : m.length = n) (hb : IsByte m) (hm : n ≤ 1000000) : Rw B w (some ⟨W.heap.size, 0, none⟩) n m := by
  subst hl
  exact Rw.of_new h hb hm

theorem fill_at (B : Nat) (a : Option Addr) (cap : Nat) (l : List Nat) (n : Nat) (w : World) (hn : n ≤ 1000000) (hs : Sl w a cap l) {W : World} (hb : Below W.heap.size W w) :
    Calls Try.prog 24 #[.slice a l.length cap, .int .i64 (n : Int)] w fun e w' => e = .returned (.slice (some ⟨w.heap.size, 0, none⟩) n n) ∧ Hid (Rw B w' (some ⟨w.heap.size, 0, none⟩) n (fillN l n)) ∧ Below w.heap.size w w' ∧ Below W.heap.size W w' :=
  (fill_any a cap l n w hn hs).mono fun _ _ ⟨h1, h2⟩ => ⟨h1, rw_of h2 (fillN_len l n) (fillN_byte hs.byte n) hn, h2.below, hb.trans (h2.below.mono hb.size)⟩
theorem plus_at (B : Nat) (a a2 : Option Addr) (cap cap2 : Nat) (l m : List Nat) (c : Nat) (w : World) (hl : m.length ≤ 1000000) (hc : c < 256) (he : l.length = m.length) (hs : Sl w a cap l) (hs2 : Sl w a2 cap2 m) {W : World} (hb : Below W.heap.size W w) :
    Calls Try.prog 25 #[.slice a l.length cap, .slice a2 m.length cap2, .int .u8 (c : Int)] w fun e w' => e = .returned (.slice (some ⟨w.heap.size, 0, none⟩) l.length l.length) ∧ Hid (Rw B w' (some ⟨w.heap.size, 0, none⟩) l.length (plusN l m c)) ∧ Below w.heap.size w w' ∧ Below W.heap.size W w' :=
  (plus_any a a2 cap cap2 l m c w hl hc (by omega) hs hs2).mono fun _ _ ⟨h1, h2⟩ => ⟨h1, rw_of h2 (plusN_len l m c (by omega)) (plusN_byte l m c hs.byte hs2.byte) (by omega), h2.below, hb.trans (h2.below.mono hb.size)⟩

def SymPost (v : Rws) (m : Nat) (row : List Nat) (w : World) (e : Ending) (w' : World) : Prop :=
  ∃ g, e = .returned (.slice (some ⟨g, 0, none⟩) m m) ∧ Rw w.heap.size w' (some ⟨g, 0, none⟩) m (symTo v m row v.length) ∧ Below w.heap.size w w'

theorem cell_up {w : World} {p : Addr} {u : Value} (h : w.cell? p = some u) : ∀ d os, (Sort.grow (redrawn w d) os).cell? p = some u := fun d os => by
  rw [(below_regrown w d os).cell (World.block_lt_of_cell? w p h)]; exact h

end Go.Proofs.Ytacncbojplmcjaa
end

section
namespace Go.Proofs.Ytacncbojplmcjaa
set_option linter.unusedVariables false

/-! Powers. -/

/-- What a power is. -/
def powI (a : Nat) (n : Int) : Nat := if n = 0 then 1 else if a = 0 then 0 else powN a (n % 255).toNat

/-- What an inverse is. -/
def invN (a : Nat) : Nat := powI a (-1)
theorem invN_mul {a : Nat} (ha : a < 256) (h : a ≠ 0) : mulN a (invN a) = 1 := by
  have : invN a = powN a 254 := by unfold invN powI; rw [if_neg (by decide), if_neg h]; rfl
  rw [this]; exact mul_inv ha h
theorem invN_lt {a : Nat} (ha : a < 256) : invN a < 256 := by
  unfold invN powI
  rw [if_neg (by decide)]
  split
  · omega
  · exact powN_lt ha _
/-- There is but one. -/
theorem inv_one {a x y : Nat} (ha : a < 256) (hx : x < 256) (hy : y < 256) (h1 : mulN a x = 1) (h2 : mulN a y = 1) : x = y := by
  have e1 : mulN x (mulN a y) = mulN (mulN x a) y := mul_assoc hx ha hy
  rw [h2, mul_comm hx ha, h1, mul_one hx, one_mul hy] at e1
  exact e1

end Go.Proofs.Ytacncbojplmcjaa
end

section
namespace Go.Proofs.Ytacncbojplmcjaa
set_option linter.unusedVariables false

/-- A number of layer 3. -/
def GF : Type := {n : Nat // n < 256}
namespace GF
def zero : GF := ⟨0, by omega⟩
def one : GF := ⟨1, by omega⟩
def add (a b : GF) : GF := ⟨a.1 ^^^ b.1, xor_lt a.2 b.2⟩
def mul (a b : GF) : GF := ⟨mulN a.1 b.1, mulN_lt _ a.2⟩
def inv (a : GF) : GF := ⟨invN a.1, invN_lt a.2⟩
theorem ext {a b : GF} (h : a.1 = b.1) : a = b := Subtype.ext h
theorem add_comm (a b : GF) : add a b = add b a := ext (Nat.xor_comm _ _)
theorem add_assoc (a b c : GF) : add (add a b) c = add a (add b c) := ext (Nat.xor_assoc _ _ _)
theorem add_zero (a : GF) : add a zero = a := ext (Nat.xor_zero _)
theorem zero_add (a : GF) : add zero a = a := ext (Nat.zero_xor _)
theorem add_self (a : GF) : add a a = zero := ext (Nat.xor_self _)
theorem mul_comm (a b : GF) : mul a b = mul b a := ext (Ytacncbojplmcjaa.mul_comm a.2 b.2)
theorem mul_assoc (a b c : GF) : mul (mul a b) c = mul a (mul b c) := ext (Ytacncbojplmcjaa.mul_assoc a.2 b.2 c.2).symm
theorem mul_add (a b c : GF) : mul a (add b c) = add (mul a b) (mul a c) := ext (mul_xor_right _ _ _)
theorem add_mul (a b c : GF) : mul (add a b) c = add (mul a c) (mul b c) := ext (mul_xor_left _ a.2 b.2)
theorem mul_zero (a : GF) : mul a zero = zero := ext (Ytacncbojplmcjaa.mul_zero _)
theorem zero_mul (a : GF) : mul zero a = zero := ext (Ytacncbojplmcjaa.zero_mul _)
theorem one_mul (a : GF) : mul one a = a := ext (Ytacncbojplmcjaa.one_mul a.2)
theorem mul_one (a : GF) : mul a one = a := ext (Ytacncbojplmcjaa.mul_one a.2)
theorem mul_inv (a : GF) (h : a ≠ zero) : mul a (inv a) = one := ext (invN_mul a.2 (fun e => h (ext e)))
theorem inv_mul (a : GF) (h : a ≠ zero) : mul (inv a) a = one := by rw [mul_comm]; exact mul_inv a h
theorem one_ne : one ≠ zero := fun e => absurd (congrArg Subtype.val e) (by decide)
theorem mul_ne {a b : GF} (ha : a ≠ zero) (hb : b ≠ zero) : mul a b ≠ zero := fun e => by
  have h1 : mul (inv a) (mul a b) = zero := by rw [e, mul_zero]
  rw [← mul_assoc, inv_mul a ha, one_mul] at h1
  exact hb h1
theorem add_swap (a b c d : GF) : add (add a b) (add c d) = add (add a c) (add b d) := ext (xor_swap _ _ _ _)
theorem eq_of_add {a b : GF} (h : add a b = zero) : a = b := by
  have : add (add a b) b = b := by rw [h, zero_add]
  rw [add_assoc, add_self, add_zero] at this
  exact this
theorem em (a : GF) : a = zero ∨ a ≠ zero := by
  by_cases h : a.1 = 0
  · exact .inl (ext h)
  · exact .inr fun e => h (congrArg Subtype.val e)
end GF

/-- A vector: numbers at places. -/
def V : Type := Nat → GF
namespace V
def zero : V := fun _ => GF.zero
def add (u v : V) : V := fun j => GF.add (u j) (v j)
def smul (c : GF) (v : V) : V := fun j => GF.mul c (v j)
theorem add_comm (u v : V) : add u v = add v u := funext fun j => GF.add_comm _ _
theorem add_assoc (u v x : V) : add (add u v) x = add u (add v x) := funext fun j => GF.add_assoc _ _ _
theorem add_zero (u : V) : add u zero = u := funext fun j => GF.add_zero _
theorem zero_add (u : V) : add zero u = u := funext fun j => GF.zero_add _
theorem add_self (u : V) : add u u = zero := funext fun j => GF.add_self _
theorem smul_add (c : GF) (u v : V) : smul c (add u v) = add (smul c u) (smul c v) := funext fun j => GF.mul_add _ _ _
theorem smul_smul (c d : GF) (u : V) : smul c (smul d u) = smul (GF.mul c d) u := funext fun j => (GF.mul_assoc _ _ _).symm
theorem smul_zero (c : GF) : smul c zero = zero := funext fun j => GF.mul_zero _
theorem zero_smul (u : V) : smul GF.zero u = zero := funext fun j => GF.zero_mul _
theorem one_smul (u : V) : smul GF.one u = u := funext fun j => GF.one_mul _
theorem add_smul (c d : GF) (u : V) : smul (GF.add c d) u = add (smul c u) (smul d u) := funext fun j => GF.add_mul _ _ _
theorem add_swap (a b c d : V) : add (add a b) (add c d) = add (add a c) (add b d) := funext fun j => GF.add_swap _ _ _ _
theorem eq_of_add {u v : V} (h : add u v = zero) : u = v := funext fun j => GF.eq_of_add (congrFun h j)
end V

/-- What vectors span. -/
def Span : List V → V → Prop
  | [], v => v = V.zero
  | s :: t, v => ∃ (a : GF) (u : V), Span t u ∧ v = V.add (V.smul a s) u

theorem Span.zero : ∀ l : List V, Span l V.zero
  | [] => rfl
  | s :: t => ⟨GF.zero, V.zero, Span.zero t, by rw [V.zero_smul, V.add_zero]⟩
theorem Span.add : ∀ {l : List V} {u v : V}, Span l u → Span l v → Span l (V.add u v)
  | [], u, v, hu, hv => by rw [show u = V.zero from hu, show v = V.zero from hv]; exact V.add_zero _
  | s :: t, _, _, ⟨a, u, hu, rfl⟩, ⟨b, v, hv, rfl⟩ => ⟨GF.add a b, V.add u v, Span.add hu hv, by rw [V.add_smul, V.add_swap]⟩
theorem Span.smul : ∀ {l : List V} {u : V} (c : GF), Span l u → Span l (V.smul c u)
  | [], u, c, hu => by rw [show u = V.zero from hu]; exact V.smul_zero c
  | s :: t, _, c, ⟨a, u, hu, rfl⟩ => ⟨GF.mul c a, V.smul c u, Span.smul c hu, by rw [V.smul_add, V.smul_smul]⟩
theorem Span.axpy {l : List V} {u v : V} (c : GF) (hu : Span l u) (hv : Span l v) : Span l (V.add u (V.smul c v)) := hu.add (hv.smul c)
theorem Span.tail {s : V} {t : List V} {v : V} (h : Span t v) : Span (s :: t) v := ⟨GF.zero, v, h, by rw [V.zero_smul, V.zero_add]⟩
theorem Span.mem : ∀ {l : List V} {s : V}, s ∈ l → Span l s
  | x :: t, s, h => by
    rcases List.mem_cons.1 h with rfl | h
    · exact ⟨GF.one, V.zero, Span.zero t, by rw [V.one_smul, V.add_zero]⟩
    · exact (Span.mem h).tail
theorem Span.le : ∀ {l m : List V} {v : V}, (∀ s ∈ l, Span m s) → Span l v → Span m v
  | [], m, v, _, hv => by rw [show v = V.zero from hv]; exact Span.zero m
  | s :: t, m, _, h, ⟨a, u, hu, rfl⟩ => Span.add ((h s (List.mem_cons_self)).smul a) (Span.le (fun x hx => h x (List.mem_cons_of_mem _ hx)) hu)
/-- What holds of each, of sums and of multiples, holds of all that is spanned. -/
theorem Span.all (E : V → Prop) (h0 : E V.zero) (ha : ∀ u v, E u → E v → E (V.add u v)) (hs : ∀ c u, E u → E (V.smul c u)) : ∀ {l : List V} {v : V}, (∀ s ∈ l, E s) → Span l v → E v
  | [], v, _, hv => by rw [show v = V.zero from hv]; exact h0
  | s :: t, _, h, ⟨a, u, hu, rfl⟩ => ha _ _ (hs a _ (h s (List.mem_cons_self))) (Span.all E h0 ha hs (fun x hx => h x (List.mem_cons_of_mem _ hx)) hu)

/-- The first number of v that isn't 0 stands at p. -/
def Lead (v : V) (p : Nat) : Prop := v p ≠ GF.zero ∧ ∀ j, j < p → v j = GF.zero
theorem Lead.one {v : V} {p q : Nat} (h : Lead v p) (k : Lead v q) : p = q := by
  rcases Nat.lt_trichotomy p q with h1 | h1 | h1
  · exact absurd (k.2 p h1) h.1
  · exact h1
  · exact absurd (h.2 q h1) k.1
theorem lead_below {v : V} : ∀ n, (∃ j, j < n ∧ v j ≠ GF.zero) → ∃ p, p < n ∧ Lead v p
  | 0, ⟨j, hj, _⟩ => by omega
  | n + 1, ⟨j, hj, hv⟩ => by
    by_cases h : ∃ j, j < n ∧ v j ≠ GF.zero
    · obtain ⟨p, hp, hl⟩ := lead_below n h
      exact ⟨p, by omega, hl⟩
    · have h0 : ∀ i, i < n → v i = GF.zero := fun i hi => by
        rcases GF.em (v i) with e | e
        · exact e
        · exact absurd ⟨i, hi, e⟩ h
      have : j = n := by
        rcases Nat.lt_or_ge j n with h1 | h1
        · exact absurd (h0 j h1) hv
        · omega
      subst this
      exact ⟨j, by omega, hv, h0⟩
theorem lead_of {v : V} (h : v ≠ V.zero) : ∃ p, Lead v p := by
  by_cases e : ∃ j, v j ≠ GF.zero
  · obtain ⟨j, hj⟩ := e
    obtain ⟨p, _, hp⟩ := lead_below (j + 1) ⟨j, by omega, hj⟩
    exact ⟨p, hp⟩
  · refine absurd (funext fun j => ?_) h
    rcases GF.em (v j) with e' | e'
    · exact e'
    · exact absurd ⟨j, e'⟩ e

/-- Echelon form: rows with leads that go up. -/
def Ech : List (V × Nat) → Prop
  | [] => True
  | s :: t => Lead s.1 s.2 ∧ (∀ x ∈ t, s.2 < x.2) ∧ Ech t

theorem Ech.lead : ∀ {l : List (V × Nat)}, Ech l → ∀ s ∈ l, Lead s.1 s.2
  | s :: t, ⟨h1, _, h3⟩, x, hx => by
    rcases List.mem_cons.1 hx with rfl | hx
    · exact h1
    · exact Ech.lead h3 x hx
theorem ech_pairs : ∀ {l : List (V × Nat)}, Ech l ↔ (∀ s ∈ l, Lead s.1 s.2) ∧ (l.map (·.2)).Pairwise (· < ·)
  | [] => by simp [Ech]
  | s :: t => by
    simp only [Ech, List.map_cons, List.pairwise_cons, List.mem_cons, forall_eq_or_imp, List.mem_map, forall_exists_index, and_imp, forall_apply_eq_imp_iff₂]
    rw [ech_pairs (l := t)]
    constructor
    · rintro ⟨h1, h2, h3, h4⟩; exact ⟨⟨h1, h3⟩, h2, h4⟩
    · rintro ⟨⟨h1, h3⟩, h2, h4⟩; exact ⟨h1, h2, h3, h4⟩

theorem span_low : ∀ {l : List (V × Nat)} {p : Nat} {v : V}, Ech l → (∀ x ∈ l, p < x.2) → Span (l.map (·.1)) v → ∀ j, j ≤ p → v j = GF.zero
  | [], p, v, _, _, hv, j, hj => by rw [show v = V.zero from hv]; rfl
  | s :: t, p, _, ⟨h1, h2, h3⟩, hp, ⟨a, u, hu, rfl⟩, j, hj => by
    have hs : p < s.2 := hp s (List.mem_cons_self)
    show GF.add (GF.mul a (s.1 j)) (u j) = GF.zero
    rw [h1.2 j (by omega), GF.mul_zero, span_low h3 (fun x hx => hp x (List.mem_cons_of_mem _ hx)) hu j hj, GF.add_zero]

/-- What an echelon form spans has its first number at one of its leads. -/
theorem ech_lead : ∀ {l : List (V × Nat)} {v : V}, Ech l → Span (l.map (·.1)) v → v ≠ V.zero → ∃ s ∈ l, Lead v s.2
  | [], v, _, hv, h0 => absurd hv h0
  | s :: t, _, ⟨h1, h2, h3⟩, ⟨a, u, hu, rfl⟩, h0 => by
    have hlow := span_low h3 h2 hu
    rcases GF.em a with rfl | ha
    · rw [V.zero_smul, V.zero_add] at h0 ⊢
      obtain ⟨x, hx, hl⟩ := ech_lead h3 hu h0
      exact ⟨x, List.mem_cons_of_mem _ hx, hl⟩
    · refine ⟨s, List.mem_cons_self, ?_, fun j hj => ?_⟩
      · show GF.add (GF.mul a (s.1 s.2)) (u s.2) ≠ GF.zero
        rw [hlow s.2 (Nat.le_refl _), GF.add_zero]
        exact GF.mul_ne ha h1.1
      · show GF.add (GF.mul a (s.1 j)) (u j) = GF.zero
        rw [h1.2 j hj, GF.mul_zero, hlow j (by omega), GF.add_zero]

theorem ech_zero {l : List (V × Nat)} {v : V} (h : Ech l) (hv : Span (l.map (·.1)) v) (hz : ∀ s ∈ l, v s.2 = GF.zero) : v = V.zero := by
  by_cases h0 : v = V.zero
  · exact h0
  · obtain ⟨s, hs, hl⟩ := ech_lead h hv h0
    exact absurd (hz s hs) hl.1

/-- Two lists that go up and have the same members are the same. -/
theorem up_same : ∀ {l m : List Nat}, l.Pairwise (· < ·) → m.Pairwise (· < ·) → (∀ x, x ∈ l ↔ x ∈ m) → l = m
  | [], [], _, _, _ => rfl
  | [], b :: m, _, _, h => absurd ((h b).2 (List.mem_cons_self)) (by simp)
  | a :: l, [], _, _, h => absurd ((h a).1 (List.mem_cons_self)) (by simp)
  | a :: l, b :: m, hl, hm, h => by
    rw [List.pairwise_cons] at hl hm
    have hab : a = b := by
      have h1 := (h a).1 (List.mem_cons_self)
      have h2 := (h b).2 (List.mem_cons_self)
      rcases List.mem_cons.1 h1 with e | h1
      · exact e
      · rcases List.mem_cons.1 h2 with e | h2
        · exact e.symm
        · have := hm.1 a h1; have := hl.1 b h2; omega
    subst hab
    rw [up_same hl.2 hm.2 fun x => ⟨fun hx => ?_, fun hx => ?_⟩]
    · have h1 := (h x).1 (List.mem_cons_of_mem _ hx)
      rcases List.mem_cons.1 h1 with e | h1
      · have := hl.1 x hx; omega
      · exact h1
    · have h1 := (h x).2 (List.mem_cons_of_mem _ hx)
      rcases List.mem_cons.1 h1 with e | h1
      · have := hm.1 x hx; omega
      · exact h1

/-- Two echelon forms that span the same have the same leads. -/
theorem ech_same {l m : List (V × Nat)} (hl : Ech l) (hm : Ech m) (h1 : ∀ s ∈ l, Span (m.map (·.1)) s.1) (h2 : ∀ s ∈ m, Span (l.map (·.1)) s.1) : l.map (·.2) = m.map (·.2) := by
  have key : ∀ {l m : List (V × Nat)}, Ech l → Ech m → (∀ s ∈ l, Span (m.map (·.1)) s.1) → ∀ x, x ∈ l.map (·.2) → x ∈ m.map (·.2) := fun {l m} hl hm h1 x hx => by
    obtain ⟨s, hs, rfl⟩ := List.mem_map.1 hx
    have hld := hl.lead s hs
    obtain ⟨t, ht, hl2⟩ := ech_lead hm (h1 s hs) (fun e => hld.1 (by rw [e]; rfl))
    exact List.mem_map.2 ⟨t, ht, hl2.one hld⟩
  exact up_same (ech_pairs.1 hl).2 (ech_pairs.1 hm).2 fun x => ⟨key hl hm h1 x, key hm hl h2 x⟩

/-- How many a list that goes up can have below n. -/
theorem up_len : ∀ {l : List Nat} {n k : Nat}, l.Pairwise (· < ·) → (∀ x ∈ l, k ≤ x ∧ x < n) → l.length ≤ n - k
  | [], n, k, _, _ => Nat.zero_le _
  | a :: l, n, k, hl, h => by
    rw [List.pairwise_cons] at hl
    have ha := h a (List.mem_cons_self)
    have := up_len (n := n) (k := a + 1) hl.2 fun x hx => ⟨hl.1 x hx, (h x (List.mem_cons_of_mem _ hx)).2⟩
    simp only [List.length_cons]
    omega
/-- One that has as many as there are below n is 0, 1, .. -/
theorem up_full : ∀ {l : List Nat} {n k : Nat}, l.Pairwise (· < ·) → (∀ x ∈ l, k ≤ x ∧ x < n) → n - k ≤ l.length → ∀ i (h : i < l.length), l[i] = k + i
  | [], n, k, _, _, _, i, h => by simp at h
  | a :: l, n, k, hl, h, hn, i, hi => by
    rw [List.pairwise_cons] at hl
    have ha := h a (List.mem_cons_self)
    have h2 := up_len (n := n) (k := a + 1) hl.2 fun x hx => ⟨hl.1 x hx, (h x (List.mem_cons_of_mem _ hx)).2⟩
    simp only [List.length_cons] at hn
    have hk : a = k := by omega
    subst hk
    cases i with
    | zero => rfl
    | succ i =>
      have := up_full (n := n) (k := a + 1) hl.2 (fun x hx => ⟨hl.1 x hx, (h x (List.mem_cons_of_mem _ hx)).2⟩) (by omega) i (by simpa using hi)
      simp only [List.getElem_cons_succ]
      rw [this]; omega
end Go.Proofs.Ytacncbojplmcjaa
end

section
namespace Go.Proofs.Ytacncbojplmcjaa
open Go.ChangeShapes Go.WideShapes Go.ChangeAt Go.RowKit
set_option linter.unusedVariables false

/-- Are the first k all 0? -/
def zeroTo (l : List Nat) : Nat → Bool
  | 0 => true
  | k + 1 => zeroTo l k && (l.getD k 0 == 0)
def zeroB (l : List Nat) : Bool := zeroTo l l.length

theorem zeroTo_false {l : List Nat} {k : Nat} (h1 : k < l.length) (h : l[k] ≠ 0) : zeroTo l (k + 1) = false := by
  simp [zeroTo, List.getD, h1, h]
theorem zeroTo_true {l : List Nat} {k : Nat} (h1 : k < l.length) (h : l[k] = 0) : zeroTo l (k + 1) = zeroTo l k := by
  simp [zeroTo, List.getD, h1, h]
theorem zeroTo_later {l : List Nat} {k : Nat} (h : zeroTo l k = false) : ∀ n, zeroTo l (k + n) = false
  | 0 => h
  | n + 1 => by show (zeroTo l (k + n) && _) = false; rw [zeroTo_later h n]; rfl

end Go.Proofs.Ytacncbojplmcjaa
end
