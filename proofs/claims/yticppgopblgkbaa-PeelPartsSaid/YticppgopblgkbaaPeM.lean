/-
  What peeling does, told by lists: which unknowns are open, how many each equation has.
-/
import Derived.Test.YticppgopblgkbaaQuJ
import Derived.Test.YticppgopblgkbaaInE
namespace Go.Proofs.Yticppgopblgkbaa
open Go.ChangeShapes Go.WideShapes Go.ChangeAt Go.RowKit Go.Joins
set_option linter.unusedVariables false

/-- How many open unknowns an equation has. -/
def opO (es : Eqz) (opn : Nat → Bool) (e : Nat) : Nat := (pl (es.getD e [])).countP opn
/-- The first t unknowns of C are closed. -/
def shutT (opn : Nat → Bool) (C : List Nat) (t x : Nat) : Bool := opn x && !(C.take t).contains x
theorem shutT_start (opn : Nat → Bool) (C : List Nat) : shutT opn C 0 = opn := by funext x; simp [shutT]
theorem shutT_next (opn : Nat → Bool) {C : List Nat} {t : Nat} (h : t < C.length) (x : Nat) : shutT opn C (t + 1) x = if x = C[t] then false else shutT opn C t x := by
  have hm : x ∈ C.take (t + 1) ↔ x ∈ C.take t ∨ x = C[t] := by rw [List.take_succ_eq_append_getElem h, List.mem_append, List.mem_singleton]
  unfold shutT
  by_cases e : x = C[t]
  · rw [if_pos e]
    have : (C.take (t + 1)).contains x = true := List.contains_iff_mem.2 (hm.2 (.inr e))
    rw [this]; simp
  · rw [if_neg e]
    have : (C.take (t + 1)).contains x = (C.take t).contains x := by
      rw [Bool.eq_iff_iff, List.contains_iff_mem, List.contains_iff_mem, hm]
      exact ⟨fun h => h.resolve_right e, .inl⟩
    rw [this]
theorem shutT_open {opn : Nat → Bool} {C : List Nat} (hn : C.Nodup) {t : Nat} (h : t < C.length) (ho : opn C[t] = true) : shutT opn C t C[t] = true := by
  unfold shutT
  rw [ho]
  have : C[t] ∉ C.take t := fun hm => by
    obtain ⟨j, hj, e⟩ := List.getElem_of_mem hm
    rw [List.length_take] at hj
    rw [List.getElem_take] at e
    have := nd_inj hn (by omega) h e
    omega
  simp [this]
theorem countP_split {f g : Nat → Bool} {p : Nat} (hp : f p = true) (hg : ∀ x, g x = if x = p then false else f x) : ∀ l : List Nat, l.countP f = l.countP g + l.count p
  | [] => rfl
  | x :: l => by
    rw [List.countP_cons, List.countP_cons, List.count_cons, countP_split hp hg l]
    by_cases e : x = p
    · subst e
      rw [hg x, if_pos rfl, hp]
      simp; omega
    · rw [hg x, if_neg e]
      simp [e]; omega

/-- How many, while those of one unknown are told. -/
def opI (es : Eqz) (f : Nat → Bool) (L : List Nat) (r e : Nat) : Nat := opO es f e + (L.drop r).count e
theorem opI_start {es : Eqz} {opn : Nat → Bool} {C : List Nat} {t : Nat} (h : t < C.length) (hn : C.Nodup) (ho : opn C[t] = true) {L : List Nat} (hL : ∀ e, L.count e = cnt es es.length 0 e C[t]) : opO es (shutT opn C t) = opI es (shutT opn C (t + 1)) L 0 := by
  funext e
  unfold opI
  rw [List.drop_zero, hL]
  have : cnt es es.length 0 e C[t] = (pl (es.getD e [])).count C[t] := by
    unfold cnt
    split
    · rfl
    · have : es.getD e [] = [] := by
        rw [List.getD, List.getElem?_eq_none (by omega)]; rfl
      rw [this]
      split <;> simp [pl]
  rw [this]
  exact countP_split (shutT_open hn h ho) (fun x => shutT_next opn h x) _
theorem opI_pos {es : Eqz} {f : Nat → Bool} {L : List Nat} {r : Nat} (h : r < L.length) : 0 < opI es f L r L[r] := by
  unfold opI
  rw [List.drop_eq_getElem_cons h, List.count_cons]
  simp
  omega
theorem opI_next {es : Eqz} {f : Nat → Bool} {L : List Nat} {r : Nat} (h : r < L.length) : upd (opI es f L r) L[r] (opI es f L r L[r] - 1) = opI es f L (r + 1) := by
  funext e
  unfold upd
  by_cases he : e = L[r]
  · subst he
    rw [if_pos rfl]
    unfold opI
    rw [List.drop_eq_getElem_cons h, List.count_cons]
    simp
  · rw [if_neg he]
    unfold opI
    rw [List.drop_eq_getElem_cons h, List.count_cons]
    have : (L[r] == e) = false := by simp; exact fun h => he h.symm
    rw [this]; simp
theorem opI_end (es : Eqz) (f : Nat → Bool) (L : List Nat) : opI es f L L.length = opO es f := by
  funext e; simp [opI]
theorem opK_all (es : Eqz) : opK es es.length = opO es (fun _ => true) := by
  funext e
  unfold opK opO
  split
  · simp [pl]
  · rename_i h
    rw [List.getD, List.getElem?_eq_none (by omega)]
    simp [pl]

/-- What holds between two rounds: these are pivots' or held, and just those that aren't open. -/
structure Parts (n : Nat) (opn : Nat → Bool) (P : List (Nat × Nat)) (H : List Nat) : Prop where
  nd : (P.map Prod.snd ++ H).Nodup
  low : ∀ x ∈ P.map Prod.snd ++ H, x < n
  mem : ∀ x, x < n → (x ∈ P.map Prod.snd ++ H ↔ opn x = false)
theorem Parts.start (n : Nat) : Parts n (fun _ => true) [] [] := ⟨by simp, by simp, by simp⟩
theorem Parts.lens {n : Nat} {opn : Nat → Bool} {P : List (Nat × Nat)} {H : List Nat} (h : Parts n opn P H) : P.length ≤ n ∧ H.length ≤ n := by
  have := nodup_lt n h.nd h.low
  rw [List.length_append, List.length_map] at this
  omega
theorem Parts.next {n : Nat} {opn : Nat → Bool} {P : List (Nat × Nat)} {H : List Nat} (h : Parts n opn P H) {e p : Nat} {tl : List Nat} (hn : (p :: tl).Nodup) (hl : ∀ x ∈ p :: tl, x < n ∧ opn x = true) :
    Parts n (shutT opn (p :: tl) (p :: tl).length) (P ++ [(e, p)]) (H ++ tl) := by
  have hp : ((P ++ [(e, p)]).map Prod.snd ++ (H ++ tl)).Perm ((P.map Prod.snd ++ H) ++ (p :: tl)) := by
    simp only [List.map_append, List.map_cons, List.map_nil, List.append_assoc]
    refine List.Perm.append_left _ ?_
    rw [List.singleton_append]
    exact (List.perm_middle).symm
  refine ⟨hp.nodup_iff.2 ?_, fun x hx => ?_, fun x hx => ?_⟩
  · rw [List.nodup_append]
    refine ⟨h.nd, hn, fun x hx y hy e => ?_⟩
    subst e
    have h1 := (h.mem x (h.low x hx)).1 hx
    rw [(hl x hy).2] at h1
    cases h1
  · rcases List.mem_append.1 (hp.mem_iff.1 hx) with hx | hx
    · exact h.low x hx
    · exact (hl x hx).1
  · rw [hp.mem_iff, List.mem_append, h.mem x hx]
    unfold shutT
    rw [List.take_length]
    simp only [Bool.and_eq_false_iff, Bool.not_eq_false', List.contains_iff_mem]
theorem open_less {n : Nat} {opn : Nat → Bool} {p : Nat} {tl : List Nat} (hl : ∀ x ∈ p :: tl, x < n ∧ opn x = true) :
    (List.range n).countP (shutT opn (p :: tl) (p :: tl).length) < (List.range n).countP opn := by
  have h1 := hl p (by simp)
  rw [countP_split (f := opn) (g := fun x => if x = p then false else opn x) h1.2 (fun x => rfl) (List.range n)]
  have h2 : 0 < (List.range n).count p := List.count_pos_iff.2 (List.mem_range.2 h1.1)
  have h3 : (List.range n).countP (shutT opn (p :: tl) (p :: tl).length) ≤ (List.range n).countP (fun x => if x = p then false else opn x) := by
    refine List.countP_mono_left fun x _ hx => ?_
    unfold shutT at hx
    rw [List.take_length] at hx
    simp only [Bool.and_eq_true, Bool.not_eq_true'] at hx
    have : x ≠ p := fun e => by subst e; simp at hx
    rw [if_neg this]
    exact hx.1
  omega

/-- The open ones of the first k. -/
def leftTo (opn : Nat → Bool) (k : Nat) : List Nat := (List.range k).filter opn
theorem leftTo_next (opn : Nat → Bool) (k : Nat) : leftTo opn (k + 1) = leftTo opn k ++ (if opn k then [k] else []) := by
  unfold leftTo
  rw [List.range_succ, List.filter_append]
  congr 1
  simp [List.filter_cons]
theorem leftTo_len (opn : Nat → Bool) (k : Nat) : (leftTo opn k).length ≤ k := by
  unfold leftTo
  exact Nat.le_trans (List.length_filter_le _ _) (by simp)

/-- The slices of block g and what they hold lie between block B and block C. -/
structure InR (B C : Nat) (w : World) (g n : Nat) (L : Nat → List Nat) : Prop where
  lo : B ≤ g
  hi : g < C
  row : ∀ x, x < n → ∃ a cap, w.cell? ⟨g, x, none⟩ = some (.slice a (L x).length cap) ∧ (L x).length ≤ cap ∧ cap ≤ maxLen ∧
    ∀ r, (h : r < (L x).length) → ∃ b, a = some ⟨b, 0, none⟩ ∧ B ≤ b ∧ b < C ∧ w.cell? ⟨b, r, none⟩ = some (.int .i64 (((L x)[r] : Nat) : Int))
theorem InR.keep {B C : Nat} {w w' : World} {g n : Nat} {L : Nat → List Nat} (h : InR B C w g n L) (k : ∀ b, B ≤ b → b < C → w'.heap[b]? = w.heap[b]?) : InR B C w' g n L :=
  ⟨h.lo, h.hi, fun x hx => by
    obtain ⟨a, cap, h1, h2, h3, h4⟩ := h.row x hx
    refine ⟨a, cap, (World.cell?_of_block (a := ⟨g, x, none⟩) (k g h.lo h.hi)).trans h1, h2, h3, fun r hr => ?_⟩
    obtain ⟨b, e, k1, k2, k3⟩ := h4 r hr
    exact ⟨b, e, k1, k2, (World.cell?_of_block (a := ⟨b, r, none⟩) (k b k1 k2)).trans k3⟩⟩
theorem InTo.inR {w0 w : World} {g n : Nat} {es : Eqz} (h : InTo w0 w g n es es.length 0) : ∃ L, InR w0.heap.size w.heap.size w g n L ∧ ∀ x e, x < n → (L x).count e = cnt es es.length 0 e x := by
  obtain ⟨⟨vs, L, h1, h2, h3⟩, h4⟩ := h
  refine ⟨L, ⟨h1.hi, h1.row.lt, fun x hx => ?_⟩, h2⟩
  by_cases hL : L x = []
  · have ho := h1.own x hx
    rw [hL] at ho
    rcases ho.2 with ⟨e, _⟩ | ⟨b, cap, cur, e, k1, k2, k3, k4, k5, k6⟩
    · exact ⟨none, 0, by rw [h1.row.cell x hx, e, hL]; rfl, by rw [hL]; simp, by simp, fun r hr => by rw [hL] at hr; simp at hr⟩
    · exact ⟨_, cap, by rw [h1.row.cell x hx, e, hL], by rw [hL]; simp, k4, fun r hr => by rw [hL] at hr; simp at hr⟩
  · obtain ⟨b, cap, e, k1, k2, k3, k4⟩ := row_of_own hL (h1.own x hx)
    exact ⟨_, cap, by rw [h1.row.cell x hx, e], k2, k3, fun r hr => ⟨b, rfl, k4, k1.lt, by rw [k1.cell r hr, lV_get hr]⟩⟩
end Go.Proofs.Yticppgopblgkbaa
