/-
  Package precode's sum: sources of one length, each times its number.
-/
import Derived.Test.YtgfcpneblkleiaaRefSym
namespace Go.Proofs.Ytgfcpneblkleiaa
open Go.ChangeShapes Go.WideShapes Go.ChangeAt Go.RowKit Go.Joins
set_option linter.unusedVariables false

/-- Bytes in a block of bytes stay, wherever a frame begins. -/
theorem Rw.up {w : World} {a : Option Addr} {cap : Nat} {l : List Nat} (h : Rw 0 w a cap l) (B : Nat) : Rw B w a cap l :=
  ⟨h.sl, fun hl p hp => (h.tag hl p hp).elim (fun h => absurd h (Nat.not_lt_zero _)) .inr⟩
def SumPost (v : Rws) (m : Nat) (row : List Nat) (w : World) (e : Ending) (w' : World) : Prop :=
  ∃ g, e = .returned (.slice (some ⟨g, 0, none⟩) m m) ∧ Rw 0 w' (some ⟨g, 0, none⟩) m (symTo v m row v.length) ∧ Below w.heap.size w w'

end Go.Proofs.Ytgfcpneblkleiaa
