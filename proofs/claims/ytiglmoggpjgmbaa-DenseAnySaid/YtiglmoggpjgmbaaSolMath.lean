/-
  Equations of known vectors: what Solve answers of them. Plain mathematics.
-/
import Derived.Test.YtiglmoggpjgmbaaEchTop
import Derived.Test.YtiglmoggpjgmbaaRefRank
namespace Go.Proofs.Ytiglmoggpjgmbaa
set_option linter.unusedVariables false

def vecsN (vs : Rws) (m k : Nat) : Rws := (List.range k).map fun i => fillN ((vs.getD i []).take m) m
theorem vecsN_snoc (vs : Rws) (m k : Nat) : vecsN vs m (k + 1) = vecsN vs m k ++ [fillN ((vs.getD k []).take m) m] := by simp [vecsN, List.range_succ]
theorem vecsN_len (vs : Rws) (m k : Nat) : (vecsN vs m k).length = k := by simp [vecsN]
def cutN (rows : Rws) (k : Nat) : Rws := rows.map fun r => r.take k
def symsN (V : Rws) (m k : Nat) (L : Rws) : Rws := L.map fun r => symTo V m (fillN r k) V.length
theorem vecsN_ok {vs : Rws} (h : ∀ x ∈ vs, IsByte x) (m k : Nat) : ∀ x ∈ vecsN vs m k, x.length = m ∧ IsByte x := fun x hx => by
  obtain ⟨i, _, rfl⟩ := List.mem_map.1 hx
  refine ⟨fillN_len _ _, fillN_byte (fun n hn => ?_) m⟩
  have hn' := List.mem_of_mem_take hn
  by_cases hi : i < vs.length
  · rw [getR hi] at hn'; exact h _ (List.getElem_mem hi) n hn'
  · simp [List.getD, List.getElem?_eq_none (show vs.length ≤ i by omega)] at hn'

/-- Of equations of known vectors. -/
structure Known (V : Rws) (m k : Nat) (L : Rws) : Prop where
  vl : V.length = k
  v : ∀ x ∈ V, x.length = m ∧ IsByte x
  l : ∀ x ∈ L, x.length ≤ k ∧ IsByte x
theorem Known.fits {V L : Rws} {m k : Nat} (h : Known V m k L) {D : List Ln} (hp : D.Perm (List.zipWith Ln.mk L (symsN V m k L))) : ∀ l ∈ D, Fits k (fun j => toV (V.getD j [])) (vecL k l) := fun l hl t => by
  obtain ⟨i, hi, e⟩ := List.getElem_of_mem (hp.mem_iff.1 hl)
  have hi2 : i < L.length := by rw [List.length_zipWith] at hi; omega
  rw [List.getElem_zipWith] at e
  have e2 : l = ⟨L[i], symTo V m (fillN L[i] k) V.length⟩ := by rw [← e]; simp [symsN]
  obtain ⟨hl1, hl2⟩ := h.l _ (List.getElem_mem hi2)
  rw [vecL_high, e2]
  show toV (symTo V m (fillN L[i] k) V.length) t = _
  rw [toV_sym (fun x hx => (h.v x hx).2) (fun x hx => Nat.le_of_eq (h.v x hx).1) (fillN_byte hl2 k) V.length (Nat.le_refl _), h.vl]
  refine congrFun (sumTo_congr fun j hj => ?_) t
  rw [vecL_low hj]
  show _ = Go.Proofs.Ytiglmoggpjgmbaa.V.smul (toV L[i] j) _
  rw [toV_fillN hl2 hl1]
theorem allZ_of {zs : List Ln} {M : Nat} (hok : ∀ z ∈ zs, OkL M z) (h : ∀ z ∈ zs, toV z.right = V.zero) : (zs.all fun z => zeroB z.right) = true := by
  rw [List.all_eq_true]
  exact fun z hz => (zeroB_iff (hok z hz).right).2 (h z hz)
theorem Known.sound {V L : Rws} {m k M : Nat} (h : Known V m k L) {D : List Ln} {st : List St} {zs : List Ln} (hp : D.Perm (List.zipWith Ln.mk L (symsN V m k L))) (hi : Inv M k D st zs) : (zs.all fun z => zeroB z.right) = true :=
  allZ_of (fun z hz => (hi.okZ z hz).1) (solved_sound hi (h.fits hp))
theorem Known.told {V L : Rws} {m k M : Nat} (h : Known V m k L) {D : List Ln} {st : List St} {zs : List Ln} (hp : D.Perm (List.zipWith Ln.mk L (symsN V m k L))) (hi : Inv M k D st zs) (hn : k ≤ st.length) {i : Nat} (hik : i < k) :
    (clearL k st i).right = V.getD i [] := by
  have hs : i < st.length := by omega
  have C := clear_any hi.okS hi.up hs
  have hv : V.getD i [] = V[i]'(by rw [h.vl]; exact hik) := getR _
  obtain ⟨v1, v2⟩ := h.v _ (List.getElem_mem (show i < V.length by rw [h.vl]; exact hik))
  have hM : M = m := by
    obtain ⟨d, hd, _⟩ := hi.long _ (List.getElem_mem hs)
    obtain ⟨j, hj, e⟩ := List.getElem_of_mem (hp.mem_iff.1 hd)
    have hj2 : j < L.length := by rw [List.length_zipWith] at hj; omega
    rw [List.getElem_zipWith] at e
    have e2 : d.right = symTo V m (fillN L[j] k) V.length := by rw [← e]; simp [symsN]
    have := (hi.okD d hd).1.len
    rw [e2, (symTo_ok (fun x hx => (h.v x hx).2) V.length (Nat.le_refl _)).1] at this
    exact this.symm
  refine toV_inj C.ok.right (by rw [hv]; exact v2) (by rw [C.ok.len, hv, v1, hM]) ?_
  exact solved hi (h.fits hp) hn hik
theorem rank_of {M k : Nat} {D : List Ln} {st : List St} {zs : List Ln} {L right : Rws} (hp : D.Perm (List.zipWith Ln.mk L right)) (hsame : Same D L) (hi : Inv M k D st zs) (hb : ∀ x ∈ L, IsByte x) : rankN L = st.length := by
  have := leads_same hi hsame hb (longN_ge (ls := L))
  have h := congrArg List.length this
  rw [List.length_map] at h
  exact h.symm
end Go.Proofs.Ytiglmoggpjgmbaa
