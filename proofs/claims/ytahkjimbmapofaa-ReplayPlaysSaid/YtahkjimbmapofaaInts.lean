/-
  A slice of ints that came in.
-/
import Derived.Test.YtahkjimbmapofaaRows
import Derived.WalkKit
import Derived.ProofKit
import Derived.OpenShut
import Derived.Below
import Derived.ChangeSlices
import Derived.LaidMore
import Derived.Stop.Joined
import Derived.SizedLaws
import Derived.ChangeOld
import Derived.Lib.Hide
import Derived.Lib.SmallJoins
namespace Go.Proofs.Ytahkjimbmapofaa
open Go.ChangeShapes Go.WideShapes Go.ChangeAt Go.RowKit Go.Joins
set_option linter.unusedVariables false

/-- A slice of ints that reads as ks. -/
structure Is (w : World) (a : Option Addr) (cap : Nat) (ks : List Int) : Prop where
  rng : ∀ x ∈ ks, -9223372036854775808 ≤ x ∧ x ≤ 9223372036854775807
  len : ks.length ≤ cap
  most : cap ≤ maxLen
  none : a = none → ks = [] ∧ cap = 0
  here : ks = [] ∨ ∃ b off, a = some ⟨b, off, Option.none⟩ ∧ b < w.heap.size ∧ ∀ i (h : i < ks.length), w.cell? ⟨b, off + i, Option.none⟩ = some (.int .i64 ks[i])
theorem Is.lt {w : World} {a : Option Addr} {cap : Nat} {ks : List Int} (h : Is w a cap ks) : ks.length ≤ 9223372036854775807 := by
  have h1 := h.len; have h2 := h.most; unfold maxLen at h2; omega
theorem Is.some {w : World} {a : Option Addr} {cap : Nat} {ks : List Int} (h : Is w a cap ks) {k : Nat} (hk : k < ks.length) :
    ∃ b off, a = some ⟨b, off, Option.none⟩ ∧ b < w.heap.size ∧ w.cell? ⟨b, off + k, Option.none⟩ = some (.int .i64 ks[k]) := by
  rcases h.here with rfl | ⟨b, off, e, hb, hc⟩
  · simp at hk
  · exact ⟨b, off, e, hb, hc k hk⟩
theorem Is.below {w w' : World} {a : Option Addr} {cap : Nat} {ks : List Int} (h : Is w a cap ks) (k : Below w.heap.size w w') : Is w' a cap ks :=
  ⟨h.rng, h.len, h.most, h.none, by
    rcases h.here with e | ⟨b, off, e, hb, hc⟩
    · exact .inl e
    · exact .inr ⟨b, off, e, Nat.lt_of_lt_of_le hb k.size, fun i hi => by rw [k.cell (p := ⟨b, off + i, Option.none⟩) hb]; exact hc i hi⟩⟩

theorem cellsI : Try.prog.cellsOf 3 = 1 := by kernel_rfl

/-- A list of ints that came in. -/
theorem ints_in {H : Type} {enc : TypeId × Value → H} {w : World} {base fuel : Nat} {spare : Nat → Bool} {held : Bool} {c : Value} {x : DataW H × List MemPlace}
    (h : DataW.trod enc Try.prog w base spare held fuel 23 [c] = some x) :
    ∃ (a : Option Addr) (cap : Nat) (l : List Int), c = .slice a l.length cap ∧ Is w a cap l := by
  rcases open_ints Try.underlying23 Try.underlying3 cellsI h with ⟨hcs, hx⟩ | ⟨a, len, cap, zs, hcs, _, hl, hm, hz, hx, hcell, hwz⟩
  · simp only [List.cons.injEq, and_true] at hcs
    exact ⟨none, 0, [], hcs, ⟨by simp, by simp, by unfold maxLen; omega, fun _ => ⟨rfl, rfl⟩, .inl rfl⟩⟩
  · simp only [List.cons.injEq, and_true] at hcs
    have hlz : len ≤ zs.length := by rw [hz]; split <;> omega
    have hll : (zs.take len).length = len := by simp; omega
    refine ⟨some a, cap, zs.take len, by rw [hll]; exact hcs, fun n hn => ?_, by omega, hm, fun e => (by cases e), ?_⟩
    · have := hwz n (List.mem_of_mem_take hn)
      simpa [Lit.wf, IntKind.min, IntKind.max, IntKind.signed, IntKind.bits] using this
    · by_cases h0 : len = 0
      · exact .inl (List.length_eq_zero_iff.1 (by omega))
      · obtain ⟨b, off, spot⟩ := a
        have hc0 := hcell 0 (by omega)
        have hspot : spot = none := by simpa [Addr.add] using World.cell?_spot hc0
        subst hspot
        have hbl : b < w.heap.size := by
          exact World.block_lt_of_cell? w _ hc0
        refine .inr ⟨b, off, rfl, hbl, fun i hi => ?_⟩
        have hi2 : i < len := by omega
        have hci := hcell i (by omega)
        have e : zs.getD i 0 = (zs.take len)[i] := by simp [List.getD, show i < zs.length by omega]
        rw [e] at hci
        rw [← hci]
        by_cases hi0 : i = 0
        · subst hi0; simp [Addr.add]
        · simp [Addr.add, hi0]
end Go.Proofs.Ytahkjimbmapofaa
