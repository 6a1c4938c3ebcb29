/-
  An act that came in, opened: its six cells, and what its two lists hold; and how long its parts are at most.
-/
import Derived.Test.YtnmiopafifibaaaFew
import Derived.SizedLaws
namespace Go.Proofs.Ytnmiopafifibaaa
open Go.ChangeShapes Go.WideShapes Go.ChangeAt Go.RowKit
set_option linter.unusedVariables false

/-- A list of numbers that came in: its header, its datum and its numbers. -/
def ListIn {H : Type} (k : IntKind) (w : World) (a : Option Addr) (len cap : Nat) (d : DataW H) (zs : List Int) : Prop :=
  (a = none ∧ len = 0 ∧ cap = 0 ∧ d = .nil ∧ zs = []) ∨
  ∃ (x : Addr) (sp : List (DataW H)), a = some x ∧ len ≤ cap ∧ cap ≤ maxLen ∧ d = .slice (lits k zs) sp ∧ zs.length = len ∧ (∀ i, i < len → w.cell? (x.add i) = some (.int k (zs.getD i 0))) ∧ ∀ n ∈ zs, (Lit.int k n).wf = true

section
variable {H : Type} {enc : TypeId × Value → H} {w : World} {base : Nat} {spare : Nat → Bool} {held : Bool}

theorem list_in {t e : TypeId} {k : IntKind} {fuel : Nat} {c : Value} {x : DataW H × List MemPlace} (ht : Try.prog.underlying t = some (.slice e)) (he : Try.prog.underlying e = some (.int k)) (hc : Try.prog.cellsOf e = 1)
    (h : DataW.trod enc Try.prog w base spare held fuel t [c] = some x) : ∃ a len cap zs, c = .slice a len cap ∧ ListIn k w a len cap x.1 zs := by
  rcases open_ints ht he hc h with ⟨hcs, hx⟩ | ⟨a, len, cap, zs, hcs, _, hl, hm, hz, hx, hcell, hwz⟩
  · simp only [List.cons.injEq, and_true] at hcs
    exact ⟨_, _, _, [], hcs, .inl ⟨rfl, rfl, rfl, by rw [hx], rfl⟩⟩
  · simp only [List.cons.injEq, and_true] at hcs
    have hlz : len ≤ zs.length := by rw [hz]; split <;> omega
    refine ⟨_, _, _, zs.take len, hcs, .inr ⟨a, lits k (zs.drop len), rfl, hl, hm, by rw [hx], by simp; omega, fun i hi => ?_, fun n hn => hwz n (List.mem_of_mem_take hn)⟩⟩
    rw [hcell i (by omega)]
    simp [hi]

set_option maxRecDepth 10000 in
theorem act_open {fuel : Nat} {cs : List Value} {y : DataW H × List MemPlace} (h : DataW.trod enc Try.prog w base spare held fuel 33 cs = some y) :
    ∃ (x : ActV) (d4 d5 : DataW H) (zs ks : List Int), cs = x.vals ∧ 0 ≤ x.kind ∧ x.kind ≤ 255 ∧ (Lit.int .i64 x.n).wf = true ∧ x.a.size ≤ maxLen ∧ x.b.size ≤ maxLen ∧
      y.1 = .agg [.lit (.int .u8 x.kind), .lit (.string x.a.data.toList), .lit (.string x.b.data.toList), .lit (.int .i64 x.n), d4, d5] ∧
      ListIn .u8 w x.da x.dl x.dc d4 zs ∧ ListIn .i64 w x.ka x.kl x.kc d5 ks := by
  obtain ⟨xs, n, _, hy, hlen, hxl, hf⟩ := DataW.trod_struct Try.underlying33 h
  have hlen6 : cs.length = 6 := hlen.trans (by kernel_rfl)
  match cs, hlen6 with
  | [c0, c1, c2, c3, c4, c5], _ =>
    match xs, hxl with
    | [y0, y1, y2, y3, y4, y5], _ =>
      have f0 : DataW.trod enc Try.prog w base spare held n 5 [c0] = some y0 := hf 0 _ rfl
      have f1 : DataW.trod enc Try.prog w base spare held n 9 [c1] = some y1 := hf 1 _ rfl
      have f2 : DataW.trod enc Try.prog w base spare held n 9 [c2] = some y2 := hf 2 _ rfl
      have f3 : DataW.trod enc Try.prog w base spare held n 3 [c3] = some y3 := hf 3 _ rfl
      have f4 : DataW.trod enc Try.prog w base spare held n 30 [c4] = some y4 := hf 4 _ rfl
      have f5 : DataW.trod enc Try.prog w base spare held n 31 [c5] = some y5 := hf 5 _ rfl
      obtain ⟨k, e0, rfl, wk⟩ := DataW.trod_int Try.underlying5 f0
      obtain ⟨a, e1, rfl, wa⟩ := DataW.trod_string Try.underlying9 f1
      obtain ⟨b, e2, rfl, wb⟩ := DataW.trod_string Try.underlying9 f2
      obtain ⟨m, e3, rfl, wm⟩ := DataW.trod_int Try.underlying3 f3
      obtain ⟨da, dl, dc, zs, rfl, L4⟩ := list_in Try.underlying30 Try.underlying5 (by kernel_rfl) f4
      obtain ⟨ka, kl, kc, ks, rfl, L5⟩ := list_in Try.underlying31 Try.underlying3 (by kernel_rfl) f5
      simp only [List.cons.injEq, and_true] at e0 e1 e2 e3
      subst e0 e1 e2 e3
      have hk : 0 ≤ k ∧ k ≤ 255 := by simpa [Lit.wf, IntKind.min, IntKind.max, IntKind.signed, IntKind.bits] using wk
      exact ⟨⟨k, a, b, m, da, dl, dc, ka, kl, kc⟩, y4.1, y5.1, zs, ks, rfl, hk.1, hk.2, wm, wa, wb, by rw [hy]; rfl, L4, L5⟩

/-- The reach: no part of an act that came in is too long. -/
theorem act_small {x : ActV} {d4 d5 : DataW H} {zs ks : List Int} (L4 : ListIn .u8 w x.da x.dl x.dc d4 zs) (L5 : ListIn .i64 w x.ka x.kl x.kc d5 ks)
    (h : ∀ n ∈ DataW.weights Try.prog 33 (.agg [.lit (.int .u8 x.kind), .lit (.string x.a.data.toList), .lit (.string x.b.data.toList), .lit (.int .i64 x.n), d4, d5] : DataW H), n ≤ reachBytes) : x.small := by
  have hr : reachBytes = 140737488351232 := rfl
  have hw : DataW.weights Try.prog 33 (.agg [.lit (.int .u8 x.kind), .lit (.string x.a.data.toList), .lit (.string x.b.data.toList), .lit (.int .i64 x.n), d4, d5] : DataW H) =
      [x.a.data.toList.length] ++ ([x.b.data.toList.length] ++ (DataW.weights Try.prog 30 d4 ++ (DataW.weights Try.prog 31 d5 ++ []))) := by
    simp [DataW.weights, DataW.weightsEach, Try.underlying33]
  rw [hw] at h
  have ha := h x.a.data.toList.length (by simp)
  have hb := h x.b.data.toList.length (by simp)
  have hd : x.dl ≤ reachBytes := by
    rcases L4 with ⟨_, h0, _⟩ | ⟨y, sp, _, _, _, rfl, hz, _⟩
    · omega
    · have := h (((lits (H := H) .u8 zs).length + sp.length) * Try.prog.bytesOf 5) (by simp [DataW.weights, Try.underlying30])
      rw [show Try.prog.bytesOf 5 = 1 from by kernel_rfl] at this
      simp [lits] at this
      omega
  have hk : x.kl ≤ reachBytes := by
    rcases L5 with ⟨_, h0, _⟩ | ⟨y, sp, _, _, _, rfl, hz, _⟩
    · omega
    · have := h (((lits (H := H) .i64 ks).length + sp.length) * Try.prog.bytesOf 3) (by simp [DataW.weights, Try.underlying31])
      rw [show Try.prog.bytesOf 3 = 8 from by kernel_rfl] at this
      simp [lits] at this
      omega
  have s1 : x.a.data.toList.length = x.a.size := Array.length_toList
  have s2 : x.b.data.toList.length = x.b.size := Array.length_toList
  exact ⟨by omega, by omega, by omega, by omega⟩
end
end Go.Proofs.Ytnmiopafifibaaa
