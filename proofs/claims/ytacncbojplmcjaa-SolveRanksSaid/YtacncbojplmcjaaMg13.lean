/-
  What peeling does, told by lists: which unknowns are open, how many each equation has.
  Peeled equations first, then the others; the rank; clearing back. Plain mathematics.
  Clearing back: each step's row has just its own unknown then; where each stands. Plain mathematics.
-/
import Derived.Test.YtacncbojplmcjaaMg12
section
namespace Go.Proofs.Ytacncbojplmcjaa
open Go.ChangeShapes Go.WideShapes Go.ChangeAt Go.RowKit Go.Joins
set_option linter.unusedVariables false

/-- How many open unknowns an equation has. -/
def opO (es : Eqz) (opn : Nat → Bool) (e : Nat) : Nat := (pl (es.getD e [])).countP opn
/-- The first t unknowns of C are closed. -/
def shutT (opn : Nat → Bool) (C : List Nat) (t x : Nat) : Bool := opn x && !(C.take t).contains x
theorem shutT_start (opn : Nat → Bool) (C : List Nat) : shutT opn C 0 = opn := by funext x; simp [shutT]
theorem shutT_next (opn : Nat → Bool) {C : List Nat} {t : Nat} (h : t < C.length) (x : Nat) : shutT opn C (t + 1) x = if x = C[t] then false else shutT opn C t x := by
  have hm : x ∈ C.take (t + 1) ↔ x ∈ C.take t ∨ x = C[t] := by rw [List.take_succ_eq_append_getElem h, List.mem_append, List.mem_singleton]
  unfold shutT
  by_cases e : x = C[t]
  · rw [if_pos e]
    have : (C.take (t + 1)).contains x = true := List.contains_iff_mem.2 (hm.2 (.inr e))
    rw [this]; simp
  · rw [if_neg e]
    have : (C.take (t + 1)).contains x = (C.take t).contains x := by
      rw [Bool.eq_iff_iff, List.contains_iff_mem, List.contains_iff_mem, hm]
      exact ⟨fun h => h.resolve_right e, .inl⟩
    rw [this]
theorem shutT_open {opn : Nat → Bool} {C : List Nat} (hn : C.Nodup) {t : Nat} (h : t < C.length) (ho : opn C[t] = true) : shutT opn C t C[t] = true := by
  unfold shutT
  rw [ho]
  have : C[t] ∉ C.take t := fun hm => by
    obtain ⟨j, hj, e⟩ := List.getElem_of_mem hm
    rw [List.length_take] at hj
    rw [List.getElem_take] at e
    have := nd_inj hn (by omega) h e
    omega
  simp [this]
theorem countP_split {f g : Nat → Bool} {p : Nat} (hp : f p = true) (hg : ∀ x, g x = if x = p then false else f x) : ∀ l : List Nat, l.countP f = l.countP g + l.count p
  | [] => rfl
  | x :: l => by
    rw [List.countP_cons, List.countP_cons, List.count_cons, countP_split hp hg l]
    by_cases e : x = p
    · subst e
      rw [hg x, if_pos rfl, hp]
      simp; omega
    · rw [hg x, if_neg e]
      simp [e]; omega

/-- How many, while those of one unknown are told. -/
def opI (es : Eqz) (f : Nat → Bool) (L : List Nat) (r e : Nat) : Nat := opO es f e + (L.drop r).count e
theorem opI_start {es : Eqz} {opn : Nat → Bool} {C : List Nat} {t : Nat} (h : t < C.length) (hn : C.Nodup) (ho : opn C[t] = true) {L : List Nat} (hL : ∀ e, L.count e = cnt es es.length 0 e C[t]) : opO es (shutT opn C t) = opI es (shutT opn C (t + 1)) L 0 := by
  funext e
  unfold opI
  rw [List.drop_zero, hL]
  have : cnt es es.length 0 e C[t] = (pl (es.getD e [])).count C[t] := by
    unfold cnt
    split
    · rfl
    · have : es.getD e [] = [] := by
        rw [List.getD, List.getElem?_eq_none (by omega)]; rfl
      rw [this]
      split <;> simp [pl]
  rw [this]
  exact countP_split (shutT_open hn h ho) (fun x => shutT_next opn h x) _
theorem opI_pos {es : Eqz} {f : Nat → Bool} {L : List Nat} {r : Nat} (h : r < L.length) : 0 < opI es f L r L[r] := by
  unfold opI
  rw [List.drop_eq_getElem_cons h, List.count_cons]
  simp
  omega
theorem opI_next {es : Eqz} {f : Nat → Bool} {L : List Nat} {r : Nat} (h : r < L.length) : upd (opI es f L r) L[r] (opI es f L r L[r] - 1) = opI es f L (r + 1) := by
  funext e
  unfold upd
  by_cases he : e = L[r]
  · subst he
    rw [if_pos rfl]
    unfold opI
    rw [List.drop_eq_getElem_cons h, List.count_cons]
    simp
  · rw [if_neg he]
    unfold opI
    rw [List.drop_eq_getElem_cons h, List.count_cons]
    have : (L[r] == e) = false := by simp; exact fun h => he h.symm
    rw [this]; simp
theorem opI_end (es : Eqz) (f : Nat → Bool) (L : List Nat) : opI es f L L.length = opO es f := by
  funext e; simp [opI]
theorem opK_all (es : Eqz) : opK es es.length = opO es (fun _ => true) := by
  funext e
  unfold opK opO
  split
  · simp [pl]
  · rename_i h
    rw [List.getD, List.getElem?_eq_none (by omega)]
    simp [pl]

/-- What holds between two rounds: these are pivots' or held, and just those that aren't open. -/
structure Parts (n : Nat) (opn : Nat → Bool) (P : List (Nat × Nat)) (H : List Nat) : Prop where
  nd : (P.map Prod.snd ++ H).Nodup
  low : ∀ x ∈ P.map Prod.snd ++ H, x < n
  mem : ∀ x, x < n → (x ∈ P.map Prod.snd ++ H ↔ opn x = false)
theorem Parts.start (n : Nat) : Parts n (fun _ => true) [] [] := ⟨by simp, by simp, by simp⟩
theorem Parts.lens {n : Nat} {opn : Nat → Bool} {P : List (Nat × Nat)} {H : List Nat} (h : Parts n opn P H) : P.length ≤ n ∧ H.length ≤ n := by
  have := nodup_lt n h.nd h.low
  rw [List.length_append, List.length_map] at this
  omega
theorem Parts.next {n : Nat} {opn : Nat → Bool} {P : List (Nat × Nat)} {H : List Nat} (h : Parts n opn P H) {e p : Nat} {tl : List Nat} (hn : (p :: tl).Nodup) (hl : ∀ x ∈ p :: tl, x < n ∧ opn x = true) :
    Parts n (shutT opn (p :: tl) (p :: tl).length) (P ++ [(e, p)]) (H ++ tl) := by
  have hp : ((P ++ [(e, p)]).map Prod.snd ++ (H ++ tl)).Perm ((P.map Prod.snd ++ H) ++ (p :: tl)) := by
    simp only [List.map_append, List.map_cons, List.map_nil, List.append_assoc]
    refine List.Perm.append_left _ ?_
    rw [List.singleton_append]
    exact (List.perm_middle).symm
  refine ⟨hp.nodup_iff.2 ?_, fun x hx => ?_, fun x hx => ?_⟩
  · rw [List.nodup_append]
    refine ⟨h.nd, hn, fun x hx y hy e => ?_⟩
    subst e
    have h1 := (h.mem x (h.low x hx)).1 hx
    rw [(hl x hy).2] at h1
    cases h1
  · rcases List.mem_append.1 (hp.mem_iff.1 hx) with hx | hx
    · exact h.low x hx
    · exact (hl x hx).1
  · rw [hp.mem_iff, List.mem_append, h.mem x hx]
    unfold shutT
    rw [List.take_length]
    simp only [Bool.and_eq_false_iff, Bool.not_eq_false', List.contains_iff_mem]
theorem open_less {n : Nat} {opn : Nat → Bool} {p : Nat} {tl : List Nat} (hl : ∀ x ∈ p :: tl, x < n ∧ opn x = true) :
    (List.range n).countP (shutT opn (p :: tl) (p :: tl).length) < (List.range n).countP opn := by
  have h1 := hl p (by simp)
  rw [countP_split (f := opn) (g := fun x => if x = p then false else opn x) h1.2 (fun x => rfl) (List.range n)]
  have h2 : 0 < (List.range n).count p := List.count_pos_iff.2 (List.mem_range.2 h1.1)
  have h3 : (List.range n).countP (shutT opn (p :: tl) (p :: tl).length) ≤ (List.range n).countP (fun x => if x = p then false else opn x) := by
    refine List.countP_mono_left fun x _ hx => ?_
    unfold shutT at hx
    rw [List.take_length] at hx
    simp only [Bool.and_eq_true, Bool.not_eq_true'] at hx
    have : x ≠ p := fun e => by subst e; simp at hx
    rw [if_neg this]
    exact hx.1
  omega

/-- The equations that were used: each has its pivot, held ones, and pivots of ones used ahead of it; all that it has is closed; no later pivot is in it. -/
structure Used (es : Eqz) (opn : Nat → Bool) (P : List (Nat × Nat)) (H : List Nat) : Prop where
  own : ∀ i, (h : i < P.length) → P[i].1 < es.length ∧ P[i].2 ∈ pl (es.getD P[i].1 []) ∧ ∀ x ∈ pl (es.getD P[i].1 []), x = P[i].2 ∨ x ∈ H ∨ x ∈ (P.take i).map Prod.snd
  shut : ∀ i, (h : i < P.length) → ∀ x ∈ pl (es.getD P[i].1 []), opn x = false
  ahead : ∀ i j, (hi : i < P.length) → (hj : j < P.length) → i < j → P[j].2 ∉ pl (es.getD P[i].1 [])
theorem Used.start (es : Eqz) (opn : Nat → Bool) : Used es opn [] [] := ⟨fun i h => by simp at h, fun i h => by simp at h, fun i j h => by simp at h⟩
theorem Used.next {es : Eqz} {n : Nat} {opn : Nat → Bool} {P : List (Nat × Nat)} {H : List Nat} (h : Used es opn P H) (hp : Parts n opn P H) {e p : Nat} {tl : List Nat} (he : e < es.length) (hl : ∀ x ∈ pl (es.getD e []), x < n)
    (hc : ∀ x, x ∈ p :: tl ↔ x ∈ pl (es.getD e []) ∧ opn x = true) : Used es (shutT opn (p :: tl) (p :: tl).length) (P ++ [(e, p)]) (H ++ tl) := by
  have hs : ∀ x, opn x = false → shutT opn (p :: tl) (p :: tl).length x = false := fun x hx => by simp [shutT, hx]
  have hs2 : ∀ x ∈ p :: tl, shutT opn (p :: tl) (p :: tl).length x = false := fun x hx => by
    unfold shutT
    rw [List.take_length, List.contains_iff_mem.2 hx]
    simp
  have hp1 := (hc p).1 (by simp)
  have hlen : (P ++ [(e, p)]).length = P.length + 1 := by simp
  have hlast : ∀ (h : P.length < (P ++ [(e, p)]).length), (P ++ [(e, p)])[P.length] = (e, p) := fun h => by
    rw [List.getElem_append_right (Nat.le_refl _)]; simp
  refine ⟨fun i hi => ?_, fun i hi x hx => ?_, fun i j hi hj hij => ?_⟩
  · by_cases hil : i < P.length
    · rw [List.getElem_append_left hil]
      obtain ⟨h1, h2, h3⟩ := h.own i hil
      refine ⟨h1, h2, fun x hx => ?_⟩
      rcases h3 x hx with h4 | h4 | h4
      · exact .inl h4
      · exact .inr (.inl (List.mem_append_left _ h4))
      · refine .inr (.inr ?_)
        rw [List.take_append_of_le_length (Nat.le_of_lt hil)]
        exact h4
    · obtain rfl : i = P.length := by omega
      rw [hlast hi]
      refine ⟨he, hp1.1, fun x hx => ?_⟩
      cases ho : opn x with
      | true =>
        rcases List.mem_cons.1 ((hc x).2 ⟨hx, ho⟩) with h4 | h4
        · exact .inl h4
        · exact .inr (.inl (List.mem_append_right _ h4))
      | false =>
        rcases List.mem_append.1 ((hp.mem x (hl x hx)).2 ho) with h4 | h4
        · refine .inr (.inr ?_)
          rw [List.take_append_of_le_length (Nat.le_refl _), List.take_length]
          exact h4
        · exact .inr (.inl (List.mem_append_left _ h4))
  · by_cases hil : i < P.length
    · rw [List.getElem_append_left hil] at hx
      exact hs x (h.shut i hil x hx)
    · obtain rfl : i = P.length := by omega
      rw [hlast hi] at hx
      cases ho : opn x with
      | true => exact hs2 x ((hc x).2 ⟨hx, ho⟩)
      | false => exact hs x ho
  · have hil : i < P.length := by omega
    rw [List.getElem_append_left hil]
    by_cases hjl : j < P.length
    · rw [List.getElem_append_left hjl]
      exact h.ahead i j hil hjl hij
    · obtain rfl : j = P.length := by omega
      rw [hlast hj]
      intro hx
      have := h.shut i hil p hx
      rw [hp1.2] at this
      cases this
/-- What Peel's order tells of these equations of n unknowns. -/
structure Peeled (es : Eqz) (n : Nat) (P : List (Nat × Nat)) (H L : List Nat) : Prop where
  nd : (P.map Prod.snd ++ H ++ L).Nodup
  mem : ∀ x, x ∈ P.map Prod.snd ++ H ++ L ↔ x < n
  own : ∀ i, (h : i < P.length) → P[i].1 < es.length ∧ P[i].2 ∈ pl (es.getD P[i].1 []) ∧ ∀ x ∈ pl (es.getD P[i].1 []), x = P[i].2 ∨ x ∈ H ∨ x ∈ (P.take i).map Prod.snd
  ahead : ∀ i j, (hi : i < P.length) → (hj : j < P.length) → i < j → P[j].2 ∉ pl (es.getD P[i].1 [])
  left : ∀ x ∈ L, ∀ e, x ∉ pl (es.getD e [])
/-- No equation is used twice. -/
theorem Peeled.once {es : Eqz} {n : Nat} {P : List (Nat × Nat)} {H L : List Nat} (h : Peeled es n P H L) : (P.map Prod.fst).Nodup := by
  refine List.pairwise_iff_getElem.2 fun i j hi hj hij e => ?_
  rw [List.length_map] at hi hj
  simp only [List.getElem_map] at e
  have h1 := (h.own j hj).2.1
  rw [← e] at h1
  exact h.ahead i j hi hj hij h1

/-- The open ones of the first k. -/
def leftTo (opn : Nat → Bool) (k : Nat) : List Nat := (List.range k).filter opn
theorem leftTo_next (opn : Nat → Bool) (k : Nat) : leftTo opn (k + 1) = leftTo opn k ++ (if opn k then [k] else []) := by
  unfold leftTo
  rw [List.range_succ, List.filter_append]
  congr 1
  simp [List.filter_cons]
theorem leftTo_len (opn : Nat → Bool) (k : Nat) : (leftTo opn k).length ≤ k := by
  unfold leftTo
  exact Nat.le_trans (List.length_filter_le _ _) (by simp)

/-- The slices of block g and what they hold lie between block B and block C. -/
structure InR (B C : Nat) (w : World) (g n : Nat) (L : Nat → List Nat) : Prop where
  lo : B ≤ g
  hi : g < C
  row : ∀ x, x < n → ∃ a cap, w.cell? ⟨g, x, none⟩ = some (.slice a (L x).length cap) ∧ (L x).length ≤ cap ∧ cap ≤ maxLen ∧
    ∀ r, (h : r < (L x).length) → ∃ b, a = some ⟨b, 0, none⟩ ∧ B ≤ b ∧ b < C ∧ w.cell? ⟨b, r, none⟩ = some (.int .i64 (((L x)[r] : Nat) : Int))
theorem InR.keep {B C : Nat} {w w' : World} {g n : Nat} {L : Nat → List Nat} (h : InR B C w g n L) (k : ∀ b, B ≤ b → b < C → w'.heap[b]? = w.heap[b]?) : InR B C w' g n L :=
  ⟨h.lo, h.hi, fun x hx => by
    obtain ⟨a, cap, h1, h2, h3, h4⟩ := h.row x hx
    refine ⟨a, cap, (World.cell?_of_block (a := ⟨g, x, none⟩) (k g h.lo h.hi)).trans h1, h2, h3, fun r hr => ?_⟩
    obtain ⟨b, e, k1, k2, k3⟩ := h4 r hr
    exact ⟨b, e, k1, k2, (World.cell?_of_block (a := ⟨b, r, none⟩) (k b k1 k2)).trans k3⟩⟩
theorem InTo.inR {w0 w : World} {g n : Nat} {es : Eqz} (h : InTo w0 w g n es es.length 0) : ∃ L, InR w0.heap.size w.heap.size w g n L ∧ ∀ x e, x < n → (L x).count e = cnt es es.length 0 e x := by
  obtain ⟨⟨vs, L, h1, h2, h3⟩, h4⟩ := h
  refine ⟨L, ⟨h1.hi, h1.row.lt, fun x hx => ?_⟩, h2⟩
  by_cases hL : L x = []
  · have ho := h1.own x hx
    rw [hL] at ho
    rcases ho.2 with ⟨e, _⟩ | ⟨b, cap, cur, e, k1, k2, k3, k4, k5, k6⟩
    · exact ⟨none, 0, by rw [h1.row.cell x hx, e, hL]; rfl, by rw [hL]; simp, by simp, fun r hr => by rw [hL] at hr; simp at hr⟩
    · exact ⟨_, cap, by rw [h1.row.cell x hx, e, hL], by rw [hL]; simp, k4, fun r hr => by rw [hL] at hr; simp at hr⟩
  · obtain ⟨b, cap, e, k1, k2, k3, k4⟩ := row_of_own hL (h1.own x hx)
    exact ⟨_, cap, by rw [h1.row.cell x hx, e], k2, k3, fun r hr => ⟨b, rfl, k4, k1.lt, by rw [k1.cell r hr, lV_get hr]⟩⟩
end Go.Proofs.Ytacncbojplmcjaa
end

section
namespace Go.Proofs.Ytacncbojplmcjaa
set_option linter.unusedVariables false

abbrev R0 (es : Eqz) (n : Nat) : Rws := rowsOf n es es.length
theorem r0_get {es : Eqz} {n i : Nat} (h : i < es.length) : (R0 es n).getD i [] = rowOf n es[i] := by
  have h1 : i < (R0 es n).length := by rw [rowsOf_len (Nat.le_refl _)]; exact h
  rw [getR h1]
  simp [R0, rowsOf]
theorem rowK_there {n : Nat} {l : Cz} (hok : EqOk (n : Int) l) : ∀ k, k ≤ l.length → ∀ j, j < k → (hj : j < l.length) → (rowK n l k).getD l[j].1.toNat 0 = l[j].2
  | 0, _, j, h, _ => by omega
  | k + 1, hk, j, h, hj => by
    have hc := hok.1 _ (List.getElem_mem hj)
    have hlen := rowK_len n l k
    rw [rowK_next (by omega)]
    by_cases e : j = k
    · subst e
      simp [List.getD, hlen, show l[j].1.toNat < n by omega]
    · have h1 := rowK_there hok k (by omega) j (by omega) hj
      have h2 := List.pairwise_iff_getElem.1 hok.2 j k (by simp; omega) (by simp; omega) (by omega)
      simp only [List.getElem_map] at h2
      have hck := hok.1 _ (List.getElem_mem (show k < l.length by omega))
      have hne : l[k].1.toNat ≠ l[j].1.toNat := by omega
      rw [← h1]
      simp [List.getD, List.getElem?_set_ne hne]
theorem rowK_not {n : Nat} {l : Cz} (x : Nat) : ∀ k, k ≤ l.length → (∀ c ∈ l.take k, c.1.toNat ≠ x) → (rowK n l k).getD x 0 = 0
  | 0, _, _ => by
    show (List.replicate n 0).getD x 0 = 0
    by_cases h : x < n
    · simp [List.getD, h]
    · simp [List.getD, h]
  | k + 1, hk, h => by
    have ht : l.take (k + 1) = l.take k ++ [l[k]] := List.take_succ_eq_append_getElem (by omega)
    rw [rowK_next (by omega)]
    have h1 : l[k].1.toNat ≠ x := h l[k] (by rw [ht]; exact List.mem_append_right _ (by simp))
    have h2 := rowK_not (n := n) (l := l) x k (by omega) fun c hc => h c (by rw [ht]; exact List.mem_append_left _ hc)
    simp only [List.getD, List.getElem?_set_ne h1]
    exact h2
theorem rowOf_there {n : Nat} {l : Cz} (hok : EqOk (n : Int) l) {x : Nat} (hx : x ∈ pl l) : (rowOf n l).getD x 0 ≠ 0 := by
  obtain ⟨c, hc, rfl⟩ := List.mem_map.1 hx
  obtain ⟨j, hj, rfl⟩ := List.getElem_of_mem hc
  show (rowK n l l.length).getD l[j].1.toNat 0 ≠ 0
  rw [rowK_there hok l.length (Nat.le_refl _) j hj hj]
  exact (hok.1 _ (List.getElem_mem hj)).2.2
theorem rowOf_not {n : Nat} {l : Cz} {x : Nat} (hx : x ∉ pl l) : (rowOf n l).getD x 0 = 0 :=
  rowK_not x l.length (Nat.le_refl _) fun c hc e => hx (List.mem_map.2 ⟨c, List.mem_of_mem_take hc, e⟩)
theorem rowOf_byte {n : Nat} {l : Cz} (hb : ∀ c ∈ l, c.2 < 256) : IsByte (rowOf n l) := rowK_byte hb _ (Nat.le_refl _)
theorem EqsB.rect {es : Eqz} {n : Nat} (h : EqsB es n) : Rect (R0 es n) es.length n := by
  refine ⟨rowsOf_len (Nat.le_refl _), fun x hx => ?_, fun x hx => ?_⟩
  · unfold R0 rowsOf at hx
    obtain ⟨l, hl, rfl⟩ := List.mem_map.1 hx
    exact rowOf_len n l
  · unfold R0 rowsOf at hx
    obtain ⟨l, hl, rfl⟩ := List.mem_map.1 hx
    exact rowOf_byte (h.byte l (List.mem_of_mem_take hl))
theorem r0_there {es : Eqz} {n i x : Nat} (hE : EqsB es n) (hi : i < es.length) (hx : x ∈ pl (es.getD i [])) : vrow (R0 es n) i x ≠ GF.zero := by
  have e : es.getD i [] = es[i] := by simp [List.getD, hi]
  rw [e] at hx
  intro h
  have h1 := congrArg Subtype.val h
  have h2 : (vrow (R0 es n) i x).1 = (rowOf n es[i]).getD x 0 := by
    unfold vrow; rw [r0_get hi]; exact toV_val (rowOf_byte (hE.byte _ (List.getElem_mem hi))) x
  rw [h2] at h1
  exact rowOf_there (hE.ok _ (List.getElem_mem hi)) hx h1
theorem r0_not {es : Eqz} {n i x : Nat} (hi : i < es.length) (hx : x ∉ pl (es.getD i [])) : vrow (R0 es n) i x = GF.zero := by
  have e : es.getD i [] = es[i] := by simp [List.getD, hi]
  rw [e] at hx
  refine GF.ext ?_
  show ((R0 es n).getD i []).getD x 0 % 256 = 0
  rw [r0_get hi, rowOf_not hx]
/-- What has nothing at a place, spans nothing there. -/
theorem span_none {l : List V} {v : V} {x : Nat} (h : ∀ s ∈ l, s x = GF.zero) (hv : Span l v) : v x = GF.zero :=
  Span.all (fun v => v x = GF.zero) rfl (fun u v hu hv => by
    show GF.add (u x) (v x) = _
    rw [hu, hv, GF.add_zero]) (fun c u hu => by
    show GF.mul c (u x) = _
    rw [hu, GF.mul_zero]) h hv
theorem Pst.mono {es : Eqz} {n : Nat} {p : Pd} {S : List (Nat × Nat)} {L L' : Nat → Prop} (h : Pst es n p S L) (k : ∀ i, L' i → L i) (l : ∀ s ∈ S, L' s.1) : Pst es n p S L' :=
  ⟨h.ok, h.st, h.val.mono k, l, h.inn, h.few⟩
theorem Pst.start {es : Eqz} {n : Nat} (hE : EqsB es n) : Pst es n (R0 es n, []) [] (fun _ => True) := by
  refine ⟨⟨hE.rect, by simp⟩, ⟨by simp, by simp, by simp, by simp⟩, fun u hl hu i hi _ => ?_, by simp, fun i hi => span_row (by rw [hE.rect.rows]; exact hi), by simp⟩
  refine GF.ext ?_
  show (valsOf es u).getD i 0 % 256 = (dot (toV ((R0 es n).getD i [])) (toV u) n).1
  have h1 := valOf_dot (hE.ok _ (List.getElem_mem hi)) (hE.byte _ (List.getElem_mem hi)) hu hl
  rw [r0_get hi, h1.2]
  have : (valsOf es u).getD i 0 = valOf u es[i] := by simp [valsOf, List.getD, hi]
  rw [this]
  exact Nat.mod_eq_of_lt h1.1

/-! The equations that were peeled. -/
def usedP (P : List (Nat × Nat)) : Nat → Pd → Pd
  | 0, p => p
  | k + 1, p => takP (canc (P.take k) (P.getD k (0, 0)).1 (P.take k).length (usedP P k p)) (P.getD k (0, 0)).1 (P.getD k (0, 0)).2
structure PvSt (es : Eqz) (n : Nat) (P : List (Nat × Nat)) (k : Nat) (p : Pd) : Prop where
  pst : Pst es n p (P.take k) (fun _ => True)
  unch : ∀ i, i ∉ (P.take k).map Prod.fst → p.1.getD i [] = (R0 es n).getD i []
  ah : ∀ j i, (hj : j < P.length) → (hi : i < P.length) → j < k → j < i → vrow p.1 P[j].1 P[i].2 = GF.zero
  seen : ∀ s ∈ P.take k, Span (stV p.1 (P.take k)) (vrow (R0 es n) s.1)
theorem PvSt.start {es : Eqz} {n : Nat} {P : List (Nat × Nat)} (hE : EqsB es n) : PvSt es n P 0 (R0 es n, []) :=
  ⟨Pst.start hE, fun i _ => rfl, fun j i _ _ h => by omega, by simp⟩
theorem take_fst {P : List (Nat × Nat)} (hn : (P.map Prod.fst).Nodup) {k i : Nat} (hk : k ≤ i) (hi : i < P.length) : P[i].1 ∉ (P.take k).map Prod.fst := fun h => by
  obtain ⟨s, hs, e⟩ := List.mem_map.1 h
  obtain ⟨j, hj, rfl⟩ := List.getElem_of_mem hs
  rw [List.length_take] at hj
  rw [List.getElem_take] at e
  have h2 := List.pairwise_iff_getElem.1 hn j i (by simp; omega) (by simp; omega) (by omega)
  simp only [List.getElem_map] at h2
  exact h2 e
theorem PvSt.next {es : Eqz} {n : Nat} {P : List (Nat × Nat)} {H Lf : List Nat} (hE : EqsB es n) (hn : n ≤ 256) (hP : Peeled es n P H Lf) {k : Nat} {p : Pd} (hk : k < P.length) (h : PvSt es n P k p) :
    PvSt es n P (k + 1) (takP (canc (P.take k) P[k].1 (P.take k).length p) P[k].1 P[k].2) ∧ vrow (canc (P.take k) P[k].1 (P.take k).length p).1 P[k].1 P[k].2 ≠ GF.zero := by
  obtain ⟨he, hin, _⟩ := hP.own k hk
  have ha : P[k].2 < n := (hP.mem _).1 (List.mem_append_left _ (List.mem_append_left _ (List.mem_map.2 ⟨P[k], List.getElem_mem hk, rfl⟩)))
  have hnot := take_fst hP.once (Nat.le_refl k) hk
  have hst : ∀ i, (hi : i < P.length) → k ≤ i → ∀ x ∈ stV p.1 (P.take k), x P[i].2 = GF.zero := fun i hi hki x hx => by
    obtain ⟨s, hs, rfl⟩ := List.mem_map.1 hx
    obtain ⟨j, hj, rfl⟩ := List.getElem_of_mem hs
    rw [List.length_take] at hj
    rw [List.getElem_take]
    exact h.ah j i (by omega) hi (by omega) (by omega)
  have hpk : vrow p.1 P[k].1 = vrow (R0 es n) P[k].1 := vrow_of_get (h.unch _ hnot)
  have C := canc_to h.pst.ok h.pst.st he hnot (P.take k).length (Nat.le_refl _)
  have h0 : vrow (canc (P.take k) P[k].1 (P.take k).length p).1 P[k].1 P[k].2 ≠ GF.zero := by
    obtain ⟨s, hs1, hs2⟩ := C.diff
    rw [hs2]
    show GF.add (vrow p.1 P[k].1 P[k].2) (s P[k].2) ≠ _
    rw [span_none (hst k hk (Nat.le_refl _)) hs1, GF.add_zero, hpk]
    exact r0_there hE he hin
  obtain ⟨A, B, D, c, s, hs1, hs2⟩ := h.pst.step hE hn he hnot trivial ha h0
  have htk : P.take k ++ [(P[k].1, P[k].2)] = P.take (k + 1) := (List.take_succ_eq_append_getElem hk).symm
  rw [htk] at A D
  refine ⟨⟨A, fun i hi => ?_, fun j i hj hi hjk hji => ?_, fun x hx => ?_⟩, h0⟩
  · have hi1 : i ∉ (P.take k).map Prod.fst := fun hm => hi (by rw [← htk, List.map_append]; exact List.mem_append_left _ hm)
    have hi2 : i ≠ P[k].1 := fun e => hi (by rw [← htk, List.map_append]; exact List.mem_append_right _ (by simp [e]))
    rw [B i hi2]; exact h.unch i hi1
  · by_cases e : j = k
    · subst e
      rw [hs2]
      show GF.mul c (GF.add (vrow p.1 P[j].1 P[i].2) (s P[i].2)) = _
      rw [span_none (hst i hi (by omega)) hs1, hpk, r0_not he (hP.ahead j i hj hi hji), GF.add_zero, GF.mul_zero]
    · have hne : P[j].1 ≠ P[k].1 := fun e2 => by
        have h2 := List.pairwise_iff_getElem.1 hP.once j k (by simp; omega) (by simp; omega) (by omega)
        simp only [List.getElem_map] at h2
        exact h2 e2
      rw [vrow_of_get (B _ hne)]
      exact h.ah j i hj hi (by omega) hji
  · rw [← htk] at hx ⊢
    rcases List.mem_append.1 hx with hx | hx
    · exact span_more (fun s hs => B _ (not_fst hnot hs)) (h.seen x hx)
    · rw [List.mem_singleton.1 hx]
      show Span _ (vrow (R0 es n) P[k].1)
      rw [htk, ← hpk]; exact D

/-! The others. -/
structure OtSt (es : Eqz) (n : Nat) (S0 : List (Nat × Nat)) (k : Nat) (p : Pd) (S : List (Nat × Nat)) : Prop where
  pst : Pst es n p S (fun i => i ∈ S.map Prod.fst ∨ (k ≤ i ∧ i ∉ S0.map Prod.fst))
  unch : ∀ i, k ≤ i → i ∉ S0.map Prod.fst → p.1.getD i [] = (R0 es n).getD i []
  seen : ∀ i, i < es.length → (i < k ∨ i ∈ S0.map Prod.fst) → Span (stV p.1 S) (vrow (R0 es n) i)
  eqs : ∀ x ∈ S.map Prod.fst, x ∈ S0.map Prod.fst ∨ x < k
theorem OtSt.start {es : Eqz} {n : Nat} {P : List (Nat × Nat)} {p : Pd} (h : PvSt es n P P.length p) : OtSt es n P 0 p P := by
  have e : P.take P.length = P := List.take_length
  have h1 := h.pst
  have h2 := h.unch
  have h3 := h.seen
  rw [e] at h1 h2 h3
  exact ⟨h1.mono (fun _ _ => trivial) (fun s hs => .inl (List.mem_map.2 ⟨s, hs, rfl⟩)), fun i _ hi => h2 i hi, fun i _ hi => by
    obtain ⟨s, hs, rfl⟩ := List.mem_map.1 (hi.resolve_left (by omega))
    exact h3 s hs, fun x hx => .inl hx⟩
theorem OtSt.skip {es : Eqz} {n : Nat} {S0 S : List (Nat × Nat)} {k : Nat} {p : Pd} (h : OtSt es n S0 k p S) (hk : k ∈ S0.map Prod.fst) : OtSt es n S0 (k + 1) p S :=
  ⟨h.pst.mono (fun i hi => hi.imp id fun ⟨a, b⟩ => ⟨by omega, b⟩) (fun s hs => .inl (List.mem_map.2 ⟨s, hs, rfl⟩)), fun i hi hn => h.unch i (by omega) hn, fun i hi hs => by
    by_cases e : i = k
    · exact h.seen i hi (.inr (e ▸ hk))
    · exact h.seen i hi (hs.imp (fun h => by omega) id), fun x hx => (h.eqs x hx).imp id fun h => by omega⟩
theorem OtSt.new {es : Eqz} {n : Nat} {S0 S : List (Nat × Nat)} {k : Nat} {p : Pd} (h : OtSt es n S0 k p S) (hk : k ∉ S0.map Prod.fst) : k ∉ S.map Prod.fst := fun hm => (h.eqs k hm).elim hk fun h => by omega
theorem OtSt.keep {es : Eqz} {n : Nat} {S0 S : List (Nat × Nat)} {k a : Nat} {p : Pd} (hE : EqsB es n) (hn : n ≤ 256) (h : OtSt es n S0 k p S) (hkm : k < es.length) (hk : k ∉ S0.map Prod.fst) (ha : a < n)
    (h0 : vrow (canc S k S.length p).1 k a ≠ GF.zero) : OtSt es n S0 (k + 1) (takP (canc S k S.length p) k a) (S ++ [(k, a)]) := by
  have hnot := h.new hk
  obtain ⟨A, B, D, _⟩ := h.pst.step hE hn hkm hnot (.inr ⟨Nat.le_refl _, hk⟩) ha h0
  refine ⟨A.mono (fun i hi => ?_) (fun s hs => .inl (List.mem_map.2 ⟨s, hs, rfl⟩)), fun i hi hn => ?_, fun i hi hs => ?_, fun x hx => ?_⟩
  · rcases hi with hi | ⟨hi, hn⟩
    · rw [List.map_append] at hi
      rcases List.mem_append.1 hi with hi | hi
      · exact .inl hi
      · have : i = k := by simpa using hi
        subst this
        exact .inr ⟨Nat.le_refl _, hk⟩
    · exact .inr ⟨by omega, hn⟩
  · rw [B i (by omega)]; exact h.unch i (by omega) hn
  · by_cases e : i = k
    · subst e
      rw [← vrow_of_get (h.unch i (Nat.le_refl _) hk)]
      exact D
    · exact span_more (fun s hs => B _ (not_fst hnot hs)) (h.seen i hi (hs.imp (fun h => by omega) id))
  · rw [List.map_append] at hx
    rcases List.mem_append.1 hx with hx | hx
    · exact (h.eqs x hx).imp id fun h => by omega
    · have : x = k := by simpa using hx
      exact .inr (by omega)
theorem OtSt.drop {es : Eqz} {n : Nat} {S0 S : List (Nat × Nat)} {k : Nat} {p : Pd} (hE : EqsB es n) (h : OtSt es n S0 k p S) (hkm : k < es.length) (hk : k ∉ S0.map Prod.fst)
    (h0 : vrow (canc S k S.length p).1 k = V.zero) : OtSt es n S0 (k + 1) ((canc S k S.length p).1, p.2) S := by
  have hnot := h.new hk
  have C := canc_to h.pst.ok h.pst.st hkm hnot S.length (Nat.le_refl _)
  have hS : ∀ s ∈ S, (canc S k S.length p).1.getD s.1 [] = p.1.getD s.1 [] := fun s hs => C.other _ (not_fst hnot hs)
  have hspan : Span (stV p.1 S) (vrow p.1 k) := by
    obtain ⟨s, hs1, hs2⟩ := C.diff
    rw [h0] at hs2
    rw [V.eq_of_add hs2.symm]; exact hs1
  refine ⟨⟨⟨C.ok.rect, h.pst.ok.deed⟩, h.pst.st.same hS, fun u hl hu i hi hL => ?_, fun s hs => .inl (List.mem_map.2 ⟨s, hs, rfl⟩), fun i hi => ?_, h.pst.few⟩, fun i hi hn => ?_, fun i hi hs => ?_, fun x hx => (h.eqs x hx).imp id fun h => by omega⟩
  · have hik : i ≠ k := fun e => by
      rcases hL with hL | ⟨hL, _⟩
      · exact hnot (e ▸ hL)
      · omega
    show _ = dot (vrow (canc S k S.length p).1 i) (toV u) n
    rw [vrow_of_get (C.other i hik)]
    exact h.pst.val u hl hu i hi (hL.imp id fun ⟨a, b⟩ => ⟨by omega, b⟩)
  · by_cases e : i = k
    · subst e
      show Span _ (vrow (canc S i S.length p).1 i)
      rw [h0]; exact Span.zero _
    · show Span _ (vrow (canc S k S.length p).1 i)
      rw [vrow_of_get (C.other i e)]; exact h.pst.inn i hi
  · exact (C.other i (by omega)).trans (h.unch i (by omega) hn)
  · rw [stV_same (M := p.1) hS]
    by_cases e : i = k
    · subst e
      rw [← vrow_of_get (h.unch i (Nat.le_refl _) hk)]
      exact hspan
    · exact h.seen i hi (hs.imp (fun h => by omega) id)

/-! The rank. -/
theorem Pst.rank {es : Eqz} {n : Nat} {p : Pd} {S : List (Nat × Nat)} {L : Nat → Prop} (hE : EqsB es n) (h : Pst es n p S L) (hs : ∀ i, i < es.length → Span (stV p.1 S) (vrow (R0 es n) i)) : rkE es n = S.length := by
  have e := rank_tri (rows := R0 es n) (T := S.map fun s => (vrow p.1 s.1, s.2)) hE.rect.byte ⟨fun x hx => ?_, ?_⟩ (fun x hx => ?_) (span_rows fun i hi => ?_)
  · unfold rkE
    rw [e, List.length_map]
  · obtain ⟨s, hs, rfl⟩ := List.mem_map.1 hx
    simp only []
    rw [h.st.one s hs]; exact GF.one_ne
  · rw [List.pairwise_map]; exact h.st.pw
  · obtain ⟨s, hs, rfl⟩ := List.mem_map.1 hx
    exact h.inn _ (h.st.low s hs).1
  · rw [hE.rect.rows] at hi
    rw [List.map_map]
    exact hs i hi
theorem OtSt.rank_all {es : Eqz} {n : Nat} {S0 S : List (Nat × Nat)} {p : Pd} (hE : EqsB es n) (h : OtSt es n S0 es.length p S) : rkE es n = S.length :=
  h.pst.rank hE fun i hi => h.seen i hi (.inl hi)
theorem OtSt.rank_most {es : Eqz} {n : Nat} {S0 S : List (Nat × Nat)} {k : Nat} {p : Pd} {Lf : List Nat} (hE : EqsB es n) (h : OtSt es n S0 k p S) (hd : Lf.Nodup) (hl : ∀ x ∈ Lf, x < n) (hz : ∀ x ∈ Lf, ∀ e, x ∉ pl (es.getD e [])) (hm : S.length + Lf.length = n) : rkE es n = S.length := by
  have hr0 : ∀ x ∈ Lf, ∀ v ∈ vrows (R0 es n), v x = GF.zero := fun x hx => span_rows fun i hi => r0_not (by rw [hE.rect.rows] at hi; exact hi) (hz x hx i)
  have hcol : ∀ x, x < n → x ∈ S.map Prod.snd ∨ x ∈ Lf := fun x hx => by
    refine List.mem_append.1 (nodup_all (l := S.map Prod.snd ++ Lf) ?_ ?_ (by simp; omega) hx)
    · rw [List.nodup_append]
      refine ⟨h.pst.st.cols, hd, fun a ha b hb e => ?_⟩
      subst e
      obtain ⟨s, hs, rfl⟩ := List.mem_map.1 ha
      have h1 := span_none (hr0 _ hb) (h.pst.inn _ (h.pst.st.low s hs).1)
      rw [h.pst.st.one s hs] at h1
      exact GF.one_ne h1
    · intro y hy
      rcases List.mem_append.1 hy with hy | hy
      · obtain ⟨s, hs, rfl⟩ := List.mem_map.1 hy
        exact (h.pst.st.low s hs).2
      · exact hl y hy
  refine h.pst.rank hE fun i hi => ?_
  by_cases hs : i < k ∨ i ∈ S0.map Prod.fst
  · exact h.seen i hi hs
  · have hs2 : i ∉ S0.map Prod.fst := fun e => hs (.inr e)
    have hki : k ≤ i := by
      rcases Nat.lt_or_ge i k with h | h
      · exact absurd (.inl h) hs
      · exact h
    have hnot : i ∉ S.map Prod.fst := fun hm => (h.eqs i hm).elim hs2 fun h => by omega
    have C := canc_to h.pst.ok h.pst.st hi hnot S.length (Nat.le_refl _)
    obtain ⟨s, hs1, hs2'⟩ := C.diff
    have hzero : vrow (canc S i S.length p).1 i = V.zero := funext fun x => by
      by_cases hx : x < n
      · rcases hcol x hx with hc | hc
        · obtain ⟨y, hy, rfl⟩ := List.mem_map.1 hc
          obtain ⟨j, hj, rfl⟩ := List.getElem_of_mem hy
          exact C.clear j hj hj
        · rw [hs2']
          show GF.add (vrow p.1 i x) (s x) = _
          rw [span_none (hr0 x hc) (h.pst.inn i hi), span_none (hr0 x hc) (h.pst.span_st hs1), GF.add_zero]; rfl
      · exact toV_high (by rw [(C.ok.rect.get hi).1]; omega)
    rw [hzero] at hs2'
    rw [← vrow_of_get (h.unch i hki hs2), V.eq_of_add hs2'.symm]
    exact hs1
end Go.Proofs.Ytacncbojplmcjaa
end

section
namespace Go.Proofs.Ytacncbojplmcjaa
set_option linter.unusedVariables false

/-- The unknown of step i is cleared from the first j ones. -/
def clr (S : List (Nat × Nat)) (i : Nat) : Nat → Pd → Pd
  | 0, p => p
  | j + 1, p => addP (clr S i j p) (S.getD j (0, 0)).1 (S.getD i (0, 0)).1 (at2 (clr S i j p).1 (S.getD j (0, 0)).1 (S.getD i (0, 0)).2)
/-- From the last step on, t steps' unknowns are cleared. -/
def clrB (S : List (Nat × Nat)) : Nat → Pd → Pd
  | 0, p => p
  | t + 1, p => clr S (S.length - 1 - t) (S.length - 1 - t) (clrB S t p)
structure CbSt (es : Eqz) (n : Nat) (S : List (Nat × Nat)) (i j : Nat) (p : Pd) : Prop where
  ok : Ok es.length n p
  st : Stp es.length n p.1 S
  val : Val es n p (fun x => x ∈ S.map Prod.fst)
  done : ∀ a l, (ha : a < S.length) → (hl : l < S.length) → a < l → (i < l ∨ (l = i ∧ a < j)) → vrow p.1 S[a].1 S[l].2 = GF.zero
theorem stp_fst {m n : Nat} {M : Rws} {S : List (Nat × Nat)} (h : Stp m n M S) {i j : Nat} (hi : i < S.length) (hj : j < S.length) (e : S[i].1 = S[j].1) : i = j := by
  rcases Nat.lt_trichotomy i j with k | k | k
  · have h2 := List.pairwise_iff_getElem.1 h.nd i j (by simp; omega) (by simp; omega) k
    simp only [List.getElem_map] at h2
    exact absurd e h2
  · exact k
  · have h2 := List.pairwise_iff_getElem.1 h.nd j i (by simp; omega) (by simp; omega) k
    simp only [List.getElem_map] at h2
    exact absurd e.symm h2
theorem stp_snd {m n : Nat} {M : Rws} {S : List (Nat × Nat)} (h : Stp m n M S) {i j : Nat} (hi : i < S.length) (hj : j < S.length) (e : S[i].2 = S[j].2) : i = j := by
  rcases Nat.lt_trichotomy i j with k | k | k
  · have h2 := List.pairwise_iff_getElem.1 h.cols i j (by simp; omega) (by simp; omega) k
    simp only [List.getElem_map] at h2
    exact absurd e h2
  · exact k
  · have h2 := List.pairwise_iff_getElem.1 h.cols j i (by simp; omega) (by simp; omega) k
    simp only [List.getElem_map] at h2
    exact absurd e.symm h2
theorem CbSt.col {es : Eqz} {n : Nat} {S : List (Nat × Nat)} {i j : Nat} {p : Pd} (h : CbSt es n S i j p) (hS : S.length = n) {x : Nat} (hx : x < n) : ∃ l, ∃ hl : l < S.length, x = S[l].2 := by
  have := nodup_all h.st.cols (fun y hy => by
    obtain ⟨s, hs, rfl⟩ := List.mem_map.1 hy
    exact (h.st.low s hs).2) (by simp; omega) hx
  obtain ⟨s, hs, rfl⟩ := List.mem_map.1 this
  obtain ⟨l, hl, rfl⟩ := List.getElem_of_mem hs
  exact ⟨l, hl, rfl⟩
theorem CbSt.unit {es : Eqz} {n : Nat} {S : List (Nat × Nat)} {i j : Nat} {p : Pd} (h : CbSt es n S i j p) (hS : S.length = n) (hi : i < S.length) : vrow p.1 S[i].1 = onlyV S[i].2 GF.one := funext fun x => by
  by_cases hx : x < n
  · obtain ⟨l, hl, rfl⟩ := h.col hS hx
    by_cases e : l = i
    · subst e
      rw [h.st.one _ (List.getElem_mem hi), onlyV_at]
    · rw [onlyV_not _ fun e2 => e (stp_snd h.st hl hi e2)]
      rcases Nat.lt_or_ge l i with k | k
      · exact h.st.at hl hi k
      · exact h.done i l hi hl (by omega) (.inl (by omega))
  · have hlow := h.st.low _ (List.getElem_mem hi)
    rw [onlyV_not _ (by omega)]
    exact toV_high (by rw [(h.ok.rect.get hlow.1).1]; omega)
theorem CbSt.next {es : Eqz} {n : Nat} {S : List (Nat × Nat)} {i j : Nat} {p : Pd} (hE : EqsB es n) (h : CbSt es n S i j p) (hS : S.length = n) (hi : i < S.length) (hj : j < S.length) (hji : j < i) :
    CbSt es n S i (j + 1) (addP p S[j].1 S[i].1 (at2 p.1 S[j].1 S[i].2)) := by
  have hmi := List.getElem_mem hi
  have hmj := List.getElem_mem hj
  have li := h.st.low _ hmi
  have lj := h.st.low _ hmj
  have hne : S[j].1 ≠ S[i].1 := fun e => by have := stp_fst h.st hj hi e; omega
  have hc := h.ok.rect.at2_lt S[j].1 S[i].2
  have hrow := add_row h.ok lj.1 li.1 hc
  have hu := h.unit hS hi
  have hg : ∀ x, x ≠ S[j].1 → vrow (addP p S[j].1 S[i].1 (at2 p.1 S[j].1 S[i].2)).1 x = vrow p.1 x := fun x hx => vrow_of_get (add_get h.ok lj.1 x hx)
  have hcol : ∀ x, x ≠ S[i].2 → vrow (addP p S[j].1 S[i].1 (at2 p.1 S[j].1 S[i].2)).1 S[j].1 x = vrow p.1 S[j].1 x := fun x hx => by
    rw [hrow]
    show GF.add (vrow p.1 S[j].1 x) (GF.mul _ (vrow p.1 S[i].1 x)) = _
    rw [hu, onlyV_not _ hx, GF.mul_zero, GF.add_zero]
  have hzero : vrow (addP p S[j].1 S[i].1 (at2 p.1 S[j].1 S[i].2)).1 S[j].1 S[i].2 = GF.zero := by
    rw [hrow]
    show GF.add (vrow p.1 S[j].1 S[i].2) (GF.mul _ (vrow p.1 S[i].1 S[i].2)) = _
    rw [hu, onlyV_at, GF.mul_one, vrow_at h.ok.rect _ _ lj.1]
    exact GF.add_self _
  refine ⟨h.ok.add lj.1 li.1 hc hne, ⟨h.st.low, fun s hs => ?_, ?_, h.st.nd⟩, Val.add hE h.ok h.val lj.1 li.1 hc hne (List.mem_map.2 ⟨_, hmj, rfl⟩) (List.mem_map.2 ⟨_, hmi, rfl⟩), fun a l ha hl hal hh => ?_⟩
  · obtain ⟨k, hk, rfl⟩ := List.getElem_of_mem hs
    by_cases e : k = j
    · subst e
      rw [hcol _ fun e2 => by have := stp_snd h.st hk hi e2; omega]
      exact h.st.one _ hmj
    · rw [hg _ fun e2 => e (stp_fst h.st hk hj e2)]
      exact h.st.one _ hs
  · refine List.pairwise_iff_getElem.2 fun a b ha hb hab => ?_
    by_cases e : b = j
    · subst e
      rw [hcol _ fun e2 => by have := stp_snd h.st ha hi e2; omega]
      exact h.st.at ha hb hab
    · rw [hg _ fun e2 => e (stp_fst h.st hb hj e2)]
      exact h.st.at ha hb hab
  · by_cases e : a = j
    · subst e
      by_cases e2 : l = i
      · subst e2; exact hzero
      · rw [hcol _ fun e3 => e2 (stp_snd h.st hl hi e3)]
        exact h.done a l ha hl hal (.inl (by omega))
    · rw [hg _ fun e2 => e (stp_fst h.st ha hj e2)]
      refine h.done a l ha hl hal ?_
      rcases hh with hh | ⟨h1, h2⟩
      · exact .inl hh
      · exact .inr ⟨h1, by omega⟩
theorem CbSt.inner {es : Eqz} {n : Nat} {S : List (Nat × Nat)} {i : Nat} {p : Pd} (hE : EqsB es n) (h : CbSt es n S i 0 p) (hS : S.length = n) (hi : i < S.length) : ∀ j, j ≤ i → CbSt es n S i j (clr S i j p) ∧ (clr S i j p).2.length ≤ p.2.length + j
  | 0, _ => ⟨h, by simp [clr]⟩
  | j + 1, hj => by
    obtain ⟨k1, k2⟩ := CbSt.inner hE h hS hi j (by omega)
    have k := k1.next hE hS hi (show j < S.length by omega) (by omega)
    have e : clr S i (j + 1) p = addP (clr S i j p) S[j].1 S[i].1 (at2 (clr S i j p).1 S[j].1 S[i].2) := by
      show addP _ _ _ _ = _
      rw [getP (show j < S.length by omega), getP hi]
    rw [e]
    refine ⟨k, ?_⟩
    unfold addP
    split
    · omega
    · simp; omega
theorem CbSt.lower {es : Eqz} {n : Nat} {S : List (Nat × Nat)} {i : Nat} {p : Pd} (h : CbSt es n S (i + 1) (i + 1) p) : CbSt es n S i 0 p :=
  ⟨h.ok, h.st, h.val, fun a l ha hl hal hh => h.done a l ha hl hal (by omega)⟩
theorem CbSt.start {es : Eqz} {n : Nat} {p : Pd} {S : List (Nat × Nat)} {L : Nat → Prop} (h : Pst es n p S L) : CbSt es n S S.length S.length p :=
  ⟨h.ok, h.st, h.val.mono fun i hi => by obtain ⟨s, hs, rfl⟩ := List.mem_map.1 hi; exact h.liv s hs, fun a l ha hl hal hh => by omega⟩
/-- Behind t rounds. -/
theorem CbSt.outer {es : Eqz} {n : Nat} {p : Pd} {S : List (Nat × Nat)} (hE : EqsB es n) (h : CbSt es n S S.length S.length p) (hS : S.length = n) : ∀ t, t ≤ S.length → CbSt es n S (S.length - t) (S.length - t) (clrB S t p) ∧ (clrB S t p).2.length ≤ p.2.length + t * S.length
  | 0, _ => ⟨h, by simp [clrB]⟩
  | t + 1, ht => by
    obtain ⟨k1, k2⟩ := CbSt.outer hE h hS t (by omega)
    have e1 : S.length - t = (S.length - 1 - t) + 1 := by omega
    rw [e1] at k1
    have k3 := k1.lower.inner hE hS (by omega) (S.length - 1 - t) (Nat.le_refl _)
    have e2 : S.length - (t + 1) = S.length - 1 - t := by omega
    rw [e2]
    refine ⟨k3.1, ?_⟩
    have := k3.2
    show (clr S (S.length - 1 - t) (S.length - 1 - t) (clrB S t p)).2.length ≤ _
    rw [Nat.succ_mul]
    omega
/-- The places that are told by the first k steps. -/
def whN (S : List (Nat × Nat)) : Nat → List Nat
  | 0 => List.replicate S.length 0
  | k + 1 => (whN S k).set (S.getD k (0, 0)).2 (S.getD k (0, 0)).1
theorem whN_len (S : List (Nat × Nat)) : ∀ k, (whN S k).length = S.length
  | 0 => by simp [whN]
  | k + 1 => by simp [whN, whN_len S k]
theorem whN_at {m n : Nat} {M : Rws} {S : List (Nat × Nat)} (h : Stp m n M S) (hS : S.length = n) : ∀ k, k ≤ S.length → ∀ j, j < k → (hj : j < S.length) → (whN S k).getD S[j].2 0 = S[j].1
  | 0, _, j, hj, _ => by omega
  | k + 1, hk, j, hjk, hj => by
    have hkS : k < S.length := by omega
    have hlow := (h.low _ (List.getElem_mem hkS)).2
    show ((whN S k).set (S.getD k (0, 0)).2 (S.getD k (0, 0)).1).getD S[j].2 0 = _
    rw [getP hkS, getD_setN (by rw [whN_len]; omega)]
    by_cases e : j = k
    · subst e; rw [if_pos rfl]
    · rw [if_neg fun e2 => e (stp_snd h hj hkS e2)]
      exact whN_at h hS k (by omega) j (by omega) hj
theorem whN_low {m n : Nat} {M : Rws} {S : List (Nat × Nat)} (h : Stp m n M S) (hS : S.length = n) : ∀ x ∈ whN S S.length, x < m := fun x hx => by
  obtain ⟨i, hi, rfl⟩ := List.getElem_of_mem hx
  rw [whN_len] at hi
  have hc := nodup_all h.cols (fun y hy => by
    obtain ⟨s, hs, rfl⟩ := List.mem_map.1 hy
    exact (h.low s hs).2) (by simp; omega) (show i < n by omega)
  obtain ⟨s, hs, e⟩ := List.mem_map.1 hc
  obtain ⟨j, hj, rfl⟩ := List.getElem_of_mem hs
  have h1 := whN_at h hS S.length (Nat.le_refl _) j hj hj
  rw [e, getD_get (by rw [whN_len]; exact hi)] at h1
  rw [h1]
  exact (h.low _ (List.getElem_mem hj)).1
/-- The deeds tell all unknowns. -/
theorem CbSt.says {es : Eqz} {n : Nat} {p : Pd} {S : List (Nat × Nat)} (hE : EqsB es n) (h : CbSt es n S 0 0 p) (hS : S.length = n) : Says es n p.2 (whN S S.length) := by
  refine ⟨h.ok.deed, by rw [whN_len]; exact hS, whN_low h.st hS, fun u hl hu i hi => ?_⟩
  obtain ⟨l, hlS, rfl⟩ := h.col hS hi
  rw [whN_at h.st hS S.length (Nat.le_refl _) l hlS hlS]
  have hb := run_ok (hE.vals hl hu).1 (hE.vals hl hu).2 h.ok.deed
  have hunit : vrow p.1 S[l].1 = onlyV S[l].2 GF.one := by
    funext x
    by_cases hx : x < n
    · obtain ⟨k, hk, rfl⟩ := h.col hS hx
      by_cases e : k = l
      · subst e
        rw [h.st.one _ (List.getElem_mem hk), onlyV_at]
      · rw [onlyV_not _ fun e2 => e (stp_snd h.st hk hlS e2)]
        rcases Nat.lt_or_ge k l with q | q
        · exact h.st.at hk hlS q
        · exact h.done l k hlS hk (by omega) (.inl (by omega))
    · have hlow := h.st.low _ (List.getElem_mem hlS)
      rw [onlyV_not _ (by omega)]
      exact toV_high (by rw [(h.ok.rect.get hlow.1).1]; omega)
  have hv := h.val u hl hu S[l].1 (h.st.low _ (List.getElem_mem hlS)).1 (List.mem_map.2 ⟨_, List.getElem_mem hlS, rfl⟩)
  rw [hunit, dot_one (k := S[l].2) hi (fun x _ hx => onlyV_not _ hx), onlyV_at, GF.one_mul] at hv
  have e1 := congrArg Subtype.val hv
  rw [toV_val hb.2, toV_val hu] at e1
  exact e1
end Go.Proofs.Ytacncbojplmcjaa
end
