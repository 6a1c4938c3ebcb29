/-
  Symbols of sources, as plain mathematics: by cells; the document's row; sums of symbols.
-/
import Derived.Test.YtgfcpneblkleiaaRowMath
namespace Go.Proofs.Ytgfcpneblkleiaa
set_option linter.unusedVariables false

theorem plus_nought (l m : List Nat) (h : l.length ≤ m.length) : plusN l m 0 = l := by
  apply List.ext_getElem (plusN_len l m 0 h)
  intro i h1 h2
  rw [plusN_get l m 0 i h1 h2 (by omega), mul_zero, Nat.xor_zero]

/-- The sum of sources, each times the number of its cell. -/
def celTo (v : Rws) (m : Nat) (cs : Cs) : List Nat := cs.foldl (fun acc p => plusN acc (v.getD p.1 []) p.2) (List.replicate m 0)
theorem celTo_snoc (v : Rws) (m : Nat) (cs : Cs) (p : Nat × Nat) : celTo v m (cs ++ [p]) = plusN (celTo v m cs) (v.getD p.1 []) p.2 := by simp [celTo]
theorem celTo_next (v : Rws) (m : Nat) (cs : Cs) (j : Nat) (h : j < cs.length) : celTo v m (cs.take (j + 1)) = plusN (celTo v m (cs.take j)) (v.getD cs[j].1 []) cs[j].2 := by
  rw [List.take_succ_eq_append_getElem h, celTo_snoc]
theorem getR_len {v : Rws} {m i : Nat} (hv : ∀ x ∈ v, x.length = m) (h : i < v.length) : (v.getD i []).length = m := by
  rw [getR h]; exact hv _ (List.getElem_mem h)
theorem celTo_ok {v : Rws} {m : Nat} (hv : ∀ x ∈ v, x.length = m) (hb : ∀ x ∈ v, IsByte x) : ∀ (n : Nat) (cs : Cs), cs.length = n → (∀ p ∈ cs, p.1 < v.length) → (celTo v m cs).length = m ∧ IsByte (celTo v m cs)
  | 0, cs, hn, _ => by
    obtain rfl : cs = [] := List.length_eq_zero_iff.1 hn
    exact ⟨by simp [celTo], fun x hx => by have := (List.mem_replicate.1 hx).2; omega⟩
  | n + 1, cs, hn, hc => by
    have hne : cs ≠ [] := fun e => by rw [e] at hn; simp at hn
    have e := List.dropLast_concat_getLast hne
    have hp := hc _ (List.getLast_mem hne)
    obtain ⟨h1, h2⟩ := celTo_ok hv hb n cs.dropLast (by simp; omega) fun p hp => hc p (List.dropLast_subset cs hp)
    rw [← e, celTo_snoc]
    refine ⟨?_, plusN_byte _ _ _ h2 ?_⟩
    · rw [plusN_len _ _ _ (by rw [h1, getR_len hv hp]; exact Nat.le_refl _), h1]
    · rw [getR hp]; exact hb _ (List.getElem_mem hp)
theorem cel_sym {v : Rws} {m : Nat} {row : List Nat} (hv : ∀ x ∈ v, x.length = m) (hb : ∀ x ∈ v, IsByte x) : ∀ k, k ≤ v.length → celTo v m (cellsTo row k) = symTo v m row k
  | 0, _ => rfl
  | k + 1, hk => by
    have hl : (v.getD k []).length = m := getR_len hv hk
    have hf : fillN (v.getD k []) m = v.getD k [] := by
      have := fillN_self (v.getD k [])
      rwa [hl] at this
    have ih := cel_sym (row := row) hv hb k (by omega)
    have hs := (symTo_ok (m := m) (row := row) hb k (by omega)).1
    show _ = plusN (symTo v m row k) (fillN (v.getD k []) m) (row.getD k 0)
    rw [hf]
    by_cases h0 : row.getD k 0 = 0
    · rw [cellsTo_zero h0, h0, plus_nought _ _ (by rw [hs, hl]; exact Nat.le_refl _), ih]
    · rw [cellsTo_more h0, celTo_snoc, ih]

/-! The document's row. -/

/-- The first k picks, and the parities, each times its pick. -/
def docTo (k : Nat) (l : List Nat) : Nat → List Nat
  | 0 => l.take k
  | j + 1 => plusN (docTo k l j) (parRow k j) (l.getD (k + j) 0)
theorem docTo_ok {k : Nat} {l : List Nat} (hl : k ≤ l.length) (hb : IsByte l) : ∀ j, (docTo k l j).length = k ∧ IsByte (docTo k l j)
  | 0 => ⟨by simp [docTo]; omega, fun n hn => hb n (List.mem_of_mem_take hn)⟩
  | j + 1 => by
    obtain ⟨h1, h2⟩ := docTo_ok hl hb j
    exact ⟨by show (plusN _ _ _).length = k; rw [plusN_len _ _ _ (by rw [h1, parRow_len]; exact Nat.le_refl _), h1], plusN_byte _ _ _ h2 (parRow_byte _ _)⟩
theorem rowTo_fold (k : Nat) (cs : Cs) : ∀ i, i ≤ cs.length → rowTo k cs i = (cs.take i).foldl (addPick k) (List.replicate k 0)
  | 0, _ => rfl
  | i + 1, h => by
    show addPick k (rowTo k cs i) (cs.getD i (0, 0)) = _
    rw [rowTo_fold k cs i (by omega), List.take_succ_eq_append_getElem (show i < cs.length by omega), getC (show i < cs.length by omega), List.foldl_append]
    rfl
theorem fold_low (k : Nat) (l : List Nat) (hl : k ≤ l.length) : ∀ i, i ≤ k → (cellsTo l i).foldl (addPick k) (List.replicate k 0) = l.take i ++ List.replicate (k - i) 0
  | 0, _ => by simp [cellsTo]
  | i + 1, h => by
    have ih := fold_low k l hl i (by omega)
    have hil : i < l.length := by omega
    have hti : (l.take i).length = i := by simp; omega
    have e1 : List.replicate (k - i) 0 = 0 :: List.replicate (k - (i + 1)) 0 := by
      rw [show k - i = (k - (i + 1)) + 1 by omega, List.replicate_succ]
    by_cases h0 : l.getD i 0 = 0
    · rw [cellsTo_zero h0, ih, List.take_succ_eq_append_getElem hil, e1]
      rw [getD_get hil] at h0
      rw [h0, List.append_assoc]; rfl
    · rw [cellsTo_more h0, List.foldl_append, ih]
      simp only [List.foldl_cons, List.foldl_nil]
      unfold addPick
      rw [if_pos (show i < k by omega), e1]
      have hg : (l.take i ++ (0 :: List.replicate (k - (i + 1)) 0)).getD i 0 = 0 := by
        rw [List.getD_eq_getElem?_getD, List.getElem?_append_right (by omega), hti]; simp
      rw [hg, Nat.zero_xor, List.set_append_right _ _ (by omega), hti, Nat.sub_self, List.set_cons_zero, List.take_succ_eq_append_getElem hil, getD_get hil, List.append_assoc]
      rfl
theorem fold_high (k : Nat) (l : List Nat) (hl : k ≤ l.length) (hb : IsByte l) : ∀ j, (cellsTo l (k + j)).foldl (addPick k) (List.replicate k 0) = docTo k l j
  | 0 => by
    have := fold_low k l hl k (Nat.le_refl _)
    rw [Nat.add_zero, this]; simp [docTo]
  | j + 1 => by
    have ih := fold_high k l hl hb j
    have hd := (docTo_ok hl hb j).1
    show (cellsTo l (k + j + 1)).foldl _ _ = plusN (docTo k l j) (parRow k j) (l.getD (k + j) 0)
    by_cases h0 : l.getD (k + j) 0 = 0
    · rw [cellsTo_zero h0, ih, h0, plus_nought _ _ (by rw [hd, parRow_len]; exact Nat.le_refl _)]
    · rw [cellsTo_more h0, List.foldl_append, ih]
      simp only [List.foldl_cons, List.foldl_nil]
      unfold addPick
      rw [if_neg (show ¬ k + j < k by omega), show k + j - k = j by omega]
theorem row_doc (k id : Nat) : rowN k id = docTo k (numsN k id) (spN k + 2) := by
  have hl : k ≤ (numsN k id).length := by rw [numsN_len]; omega
  have h := fold_high k (numsN k id) hl (numsN_byte k id) (spN k + 2)
  rw [← h]
  show rowTo k (picksN k id) (picksN k id).length = _
  rw [rowTo_fold k _ _ (Nat.le_refl _), List.take_length]
  show (cellsTo (numsN k id) (numsN k id).length).foldl _ _ = _
  rw [numsN_len]

/-! Sums. -/

theorem mul_turn {y c r : Nat} (hy : y < 256) (hc : c < 256) (hr : r < 256) : mulN (mulN y c) r = mulN (mulN y r) c := by
  rw [← mul_assoc hy hc hr, mul_comm hc hr, mul_assoc hy hr hc]
theorem plus_lin {p q s x y : List Nat} {c r m : Nat} (hc : c < 256) (hr : r < 256) (hp : p.length = m) (hq : q.length = m) (hx : x.length = m) (hy : y.length = m) (hbq : IsByte q) (hbx : IsByte x) (hby : IsByte y) :
    plusN (plusN p q c) (plusN x y c) r = plusN (plusN p x r) (plusN q y r) c := by
  have l1 := plusN_len p q c (by omega)
  have l2 := plusN_len x y c (by omega)
  have l3 := plusN_len p x r (by omega)
  have l4 := plusN_len q y r (by omega)
  apply List.ext_getElem
  · rw [plusN_len (plusN p q c) _ _ (by omega), plusN_len (plusN p x r) _ _ (by omega)]; omega
  · intro i h1 h2
    have hi : i < m := by rw [plusN_len _ _ _ (by omega)] at h1; omega
    rw [plusN_get _ _ r i h1 (by omega) (by omega), plusN_get _ _ c i h2 (by omega) (by omega), plusN_get p q c i _ (by omega) (by omega), plusN_get x y c i _ (by omega) (by omega), plusN_get p x r i _ (by omega) (by omega), plusN_get q y r i _ (by omega) (by omega)]
    have b1 : q[i] < 256 := hbq _ (List.getElem_mem _)
    have b2 : x[i] < 256 := hbx _ (List.getElem_mem _)
    have b3 : y[i] < 256 := hby _ (List.getElem_mem _)
    rw [mul_xor_left r b2 (mulN_lt c b3), mul_xor_left c b1 (mulN_lt r b3), mul_turn b3 hc hr]
    exact xor_swap _ _ _ _

/-- Of two lists of sources of one length the sums, place by place. -/
def addsN (x y : Rws) (c : Nat) : Rws := List.zipWith (fun p q => plusN p q c) x y
theorem addsN_len {x y : Rws} {k : Nat} (c : Nat) (hx : x.length = k) (hy : y.length = k) : (addsN x y c).length = k := by simp [addsN]; omega
theorem addsN_get {x y : Rws} {c i : Nat} (h : i < (addsN x y c).length) (h1 : i < x.length) (h2 : i < y.length) : (addsN x y c)[i] = plusN x[i] y[i] c := by simp [addsN]
theorem addsN_snoc {x y : Rws} {c : Nat} (p q : List Nat) (h : x.length = y.length) : addsN (x ++ [p]) (y ++ [q]) c = addsN x y c ++ [plusN p q c] := by
  unfold addsN
  rw [List.zipWith_append h]; rfl
theorem sym_adds {x y : Rws} {m k c : Nat} {row : List Nat} (hc : c < 256) (hr : IsByte row) (hx : x.length = k) (hy : y.length = k) (h1 : ∀ p ∈ x, p.length = m ∧ IsByte p) (h2 : ∀ p ∈ y, p.length = m ∧ IsByte p) :
    ∀ i, i ≤ k → symTo (addsN x y c) m row i = plusN (symTo x m row i) (symTo y m row i) c
  | 0, _ => by
    show List.replicate m 0 = plusN (List.replicate m 0) (List.replicate m 0) c
    apply List.ext_getElem
    · rw [plusN_len _ _ _ (Nat.le_refl _)]
    · intro i h h'
      rw [plusN_get _ _ c i h' (by simpa using h) (by simpa using h)]
      simp [zero_mul]
  | i + 1, hi => by
    have ih := sym_adds (row := row) hc hr hx hy h1 h2 i (by omega)
    have hxi : i < x.length := by omega
    have hyi : i < y.length := by omega
    have hzi : i < (addsN x y c).length := by rw [addsN_len c hx hy]; omega
    obtain ⟨a1, a2⟩ := h1 _ (List.getElem_mem hxi)
    obtain ⟨b1, b2⟩ := h2 _ (List.getElem_mem hyi)
    have o1 := symTo_ok (m := m) (row := row) (fun p hp => (h1 p hp).2) i (by omega)
    have o2 := symTo_ok (m := m) (row := row) (fun p hp => (h2 p hp).2) i (by omega)
    have f1 : fillN x[i] m = x[i] := by have := fillN_self x[i]; rwa [a1] at this
    have f2 : fillN y[i] m = y[i] := by have := fillN_self y[i]; rwa [b1] at this
    have hz : (plusN x[i] y[i] c).length = m := by rw [plusN_len _ _ _ (by omega), a1]
    have f3 : fillN (plusN x[i] y[i] c) m = plusN x[i] y[i] c := by have := fillN_self (plusN x[i] y[i] c); rwa [hz] at this
    show plusN (symTo (addsN x y c) m row i) (fillN ((addsN x y c).getD i []) m) (row.getD i 0) = plusN (plusN (symTo x m row i) (fillN (x.getD i []) m) (row.getD i 0)) (plusN (symTo y m row i) (fillN (y.getD i []) m) (row.getD i 0)) c
    rw [getR hxi, getR hyi, getR hzi, addsN_get hzi hxi hyi, f1, f2, f3, ih]
    exact plus_lin (s := []) hc (getD_lt hr i) o1.1 o2.1 a1 b1 o2.2 a2 b2
end Go.Proofs.Ytgfcpneblkleiaa
