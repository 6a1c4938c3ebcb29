/-
  A change of names more that waits.
-/
import Derived.Test.YtoiggdcgfbjhpaaDskP
import Derived.Test.YtoiggdcgfbjhpaaGrowV
import Derived.Maps.AppendAt
namespace Go.Proofs.Ytoiggdcgfbjhpaa
open Go.ChangeShapes Go.WideShapes Go.ChangeAt Go.RowKit Go.Joins
set_option linter.unusedVariables false

def zeroC : Value := .agg #[.pointer none, .string ⟨#[]⟩, .string ⟨#[]⟩]
theorem infoC : (Try.prog.info? 61).map (fun i => (i.zero, i.size, i.bytes)) = some (some zeroC, 3, 40) := by kernel_rfl
theorem info_c {z : Value} {s b : Nat} {t : TypeId} (h : (Try.prog.info? t).map (fun i => (i.zero, i.size, i.bytes)) = some (some z, s, b)) : ∃ i, Try.prog.info? t = some i ∧ i.zero = some z ∧ i.size = s ∧ i.bytes = b := by
  cases hi : Try.prog.info? t with
  | none => rw [hi] at h; cases h
  | some i =>
    rw [hi] at h
    simp only [Option.map_some, Option.some.injEq, Prod.mk.injEq] at h
    exact ⟨i, rfl, h.1, h.2.1, h.2.2⟩
theorem encC_snoc (l : List (Value × Chg)) (x : Value × Chg) : encC (l ++ [x]) = encC l ++ [x.1, .string x.2.src, .string x.2.dst] := by simp [encC]

theorem wp_pushC {ι : Nat → Option Nat} {o : Oper} {a : Act} {K : Act → World → Prop} {Q : Exit → Act → World → Prop} (w : World) (s y : Operand)
    (ho : o.op = .call { callee := .builtin .append, args := #[s, y], argTypes := #[46, 46] })
    (wa : Option Addr) (wl wc : Nat) (l : List (Value × Chg)) (hs : a.eval s = .slice wa wl wc) (hw : Wts ι w wa wl wc l) (g : Nat) (hy : a.eval y = .slice (some ⟨g, 0, none⟩) 1 1)
    (q : Option Addr) (c : Chg) (h0 : w.cell? ⟨g, 0, none⟩ = some (.pointer q)) (h1 : w.cell? ⟨g, 1, none⟩ = some (.string c.src)) (h2 : w.cell? ⟨g, 2, none⟩ = some (.string c.dst))
    (hp : fileR ι (.pointer q) = some (idD c.made, [])) (hc : c.src.size ≤ maxLen ∧ c.dst.size ≤ maxLen) (hl : wl ≤ 1000)
    (h : ∀ wa' wc' w', Hid (Wts ι w' wa' (wl + 1) wc' (l ++ [(.pointer q, c)])) → Hid (wc' ≤ maxLen ∧ wl + 1 ≤ wc') → Hid (Fr (fun k => (Value.slice wa wl wc).ownBlock = some k) w w') → Hid (∀ k, (Value.slice wa' (wl + 1) wc').ownBlock = some k → (Value.slice wa wl wc).ownBlock = some k ∨ k = w.heap.size) → K (a.put o.dst (.slice wa' (wl + 1) wc')) w') : o.wp Try.prog a w K Q := by
  obtain ⟨i0, hi, hz0, hz1, hz2⟩ := info_c infoC
  have hn : ∀ j u, [Value.pointer q, .string c.src, .string c.dst][j]? = some u → w.cell? ((⟨g, 0, none⟩ : Addr).add j) = some u := fun j u hj => by
    match j, hj with
    | 0, hj => simp at hj; subst hj; simpa [Addr.add] using h0
    | 1, hj => simp at hj; subst hj; simpa [Addr.add] using h1
    | 2, hj => simp at hj; subst hj; simpa [Addr.add] using h2
  obtain ⟨v', w', hr, k1, k2, -, k4⟩ := run_append_own_at (P := Try.prog) w 0 46 o.type 61 i0 zeroC 3 40 Try.underlying46 hi hz0 hz1 hz2 rfl (by decide) (.slice wa wl wc) wl (encC l) hw.row ⟨g, 0, none⟩ 1 1 [.pointer q, .string c.src, .string c.dst] rfl hn (by simp [Value.oneCell']) (by unfold maxLen; omega) (by omega) (Nat.zero_le _)
  obtain ⟨wa', wc', rfl, e1, e2⟩ := own_shape k1
  unfold Oper.wp execOp
  simp only [ho, resolve, invoke, builtin, Sem.run_bind, Sem.run_pure, Result.andThen_ok, List.map_toArray, List.map_cons, List.map_nil, hs, hy, hr]
  refine h wa' wc' w' ⟨?_, by rw [List.length_append, hw.len]; rfl, fun x hx => ?_, fun x hx => ?_⟩ ⟨e1, e2⟩ (Fr.of_grown k2 fun b e => e) fun k hk => ?_
  · rw [encC_snoc]; exact k1
  · rcases List.mem_append.1 hx with hx | hx
    · exact hw.ptr x hx
    · rw [List.mem_singleton.1 hx]; exact hp
  · rcases List.mem_append.1 hx with hx | hx
    · exact hw.src x hx
    · rw [List.mem_singleton.1 hx]; exact hc
  · rcases k4 with e | e
    · exact .inl (by rw [← e]; exact hk)
    · rw [e] at hk
      exact .inr (Option.some.inj hk).symm
end Go.Proofs.Ytoiggdcgfbjhpaa
