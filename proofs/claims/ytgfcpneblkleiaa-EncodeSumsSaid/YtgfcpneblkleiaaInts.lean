/-
  A slice of ints that came in.
-/
import Derived.Test.YtgfcpneblkleiaaRows
import Derived.WalkKit
import Derived.ProofKit
import Derived.OpenShut
import Derived.Below
import Derived.ChangeSlices
import Derived.LaidMore
import Derived.Stop.Joined
import Derived.SizedLaws
import Derived.ChangeOld
import Derived.Lib.Hide
import Derived.Lib.SmallJoins
namespace Go.Proofs.Ytgfcpneblkleiaa
open Go.ChangeShapes Go.WideShapes Go.ChangeAt Go.RowKit Go.Joins
set_option linter.unusedVariables false

/-- A slice of ints that reads as ks. -/
structure Is (w : World) (a : Option Addr) (cap : Nat) (ks : List Int) : Prop where
  rng : ∀ x ∈ ks, -9223372036854775808 ≤ x ∧ x ≤ 9223372036854775807
  len : ks.length ≤ cap
  most : cap ≤ maxLen
  none : a = none → ks = [] ∧ cap = 0
  here : ks = [] ∨ ∃ b off, a = some ⟨b, off, Option.none⟩ ∧ b < w.heap.size ∧ ∀ i (h : i < ks.length), w.cell? ⟨b, off + i, Option.none⟩ = some (.int .i64 ks[i])
theorem Is.lt {w : World} {a : Option Addr} {cap : Nat} {ks : List Int} (h : Is w a cap ks) : ks.length ≤ 9223372036854775807 := by
  have h1 := h.len; have h2 := h.most; unfold maxLen at h2; omega
theorem Is.some {w : World} {a : Option Addr} {cap : Nat} {ks : List Int} (h : Is w a cap ks) {k : Nat} (hk : k < ks.length) :
    ∃ b off, a = some ⟨b, off, Option.none⟩ ∧ b < w.heap.size ∧ w.cell? ⟨b, off + k, Option.none⟩ = some (.int .i64 ks[k]) := by
  rcases h.here with rfl | ⟨b, off, e, hb, hc⟩
  · simp at hk
  · exact ⟨b, off, e, hb, hc k hk⟩
theorem Is.below {w w' : World} {a : Option Addr} {cap : Nat} {ks : List Int} (h : Is w a cap ks) (k : Below w.heap.size w w') : Is w' a cap ks :=
  ⟨h.rng, h.len, h.most, h.none, by
    rcases h.here with e | ⟨b, off, e, hb, hc⟩
    · exact .inl e
    · exact .inr ⟨b, off, e, Nat.lt_of_lt_of_le hb k.size, fun i hi => by rw [k.cell (p := ⟨b, off + i, Option.none⟩) hb]; exact hc i hi⟩⟩

theorem cellsI : Try.prog.cellsOf 3 = 1 := by kernel_rfl

end Go.Proofs.Ytgfcpneblkleiaa
