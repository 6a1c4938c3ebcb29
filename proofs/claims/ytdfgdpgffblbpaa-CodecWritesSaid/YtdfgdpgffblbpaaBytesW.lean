/-
  Bytes that came in, and how many there can be.
-/
import Derived.Test.YtdfgdpgffblbpaaBytes
import Derived.SizedLaws
namespace Go.Proofs.Ytdfgdpgffblbpaa
open Go.ChangeShapes Go.WideShapes Go.ChangeAt Go.RowKit Go.Joins
set_option linter.unusedVariables false

section
variable {H : Type} {enc : TypeId × Value → H} {w : World} {base : Nat} {spare : Nat → Bool} {held : Bool}

theorem bytes_in2 {fuel : Nat} {c : Value} {x : DataW H × List MemPlace} (h : DataW.trod enc Try.prog w base spare held fuel 28 [c] = some x) :
    ∃ a cap l, c = .slice a l.length cap ∧ Sl w a cap l ∧ ((∀ n ∈ DataW.weights Try.prog 28 x.1, n ≤ reachBytes) → l.length ≤ 140737488351232) := by
  obtain ⟨a, cap, l, e, hs⟩ := bytes_in h
  refine ⟨a, cap, l, e, hs, fun hw => ?_⟩
  rcases open_ints Try.underlying28 Try.underlying5 cells8 h with ⟨hcs, hx⟩ | ⟨a', len, cap', zs, hcs, _, hl, hm, hz, hx, hcell, hwz⟩
  · simp only [List.cons.injEq, and_true] at hcs
    rw [e] at hcs
    injection hcs with _ h2 _
    omega
  · simp only [List.cons.injEq, and_true] at hcs
    rw [e] at hcs
    injection hcs with _ h2 _
    subst hx
    have := hw (((lits (H := H) .u8 (zs.take len)).length + (lits (H := H) .u8 (zs.drop len)).length) * Try.prog.bytesOf 5) (by simp [DataW.weights, Try.underlying28])
    rw [show Try.prog.bytesOf 5 = 1 from by kernel_rfl] at this
    have hr : reachBytes = 140737488351232 := rfl
    have hlz : len ≤ zs.length := by rw [hz]; split <;> omega
    simp [lits] at this
    omega
theorem weights_mem {e : TypeId} : ∀ {l : List (DataW H)} {d : DataW H}, d ∈ l → ∀ n ∈ DataW.weights Try.prog e d, n ∈ DataW.weightsAll Try.prog e l
  | x :: l, d, hd, n, hn => by
    simp only [DataW.weightsAll, List.mem_append]
    rcases List.mem_cons.1 hd with rfl | hd
    · exact .inl hn
    · exact .inr (weights_mem hd n hn)
end
end Go.Proofs.Ytdfgdpgffblbpaa
