/-
  The laws of layer 6, walked.
-/
import Derived.Test.YtgfcpneblkleiaaRandA
import Derived.Test.YtgfcpneblkleiaaInts
namespace Go.Proofs.Ytgfcpneblkleiaa
open Go.ChangeShapes Go.WideShapes Go.ChangeAt Go.RowKit Go.Joins
set_option linter.unusedVariables false

theorem seed_any (k i : Nat) (hk : k < 65536) (hi : i < 4294967296) (w : World) : Calls Try.prog 36 #[.int .i64 (k : Int), .int .u32 (i : Int)] w fun e w' => e = .returned (.int .u32 ((seedN k i : Nat) : Int)) ∧ w = w' := by
  have HV : Hid (((i : Int) * 2654435761 % 4294967296 + (k : Int) * 40503) % 4294967296 = ((seedN k i : Nat) : Int)) := by
    show _ = _; unfold seedN; omega
  go_enter Try.func36, Try.ntmps36
  go_wp2_with fail
  go_ret
  rw [← HV.out]
  exact ⟨rfl, rfl⟩
theorem refSeed_any (k i : Nat) (hk : k < 65536) (hi : i < 4294967296) (w : World) : Calls Try.prog 24 #[.int .i64 (k : Int), .int .u32 (i : Int)] w fun e w' => e = .returned (.int .u32 ((seedN k i : Nat) : Int)) ∧ w = w' := by
  have HV : Hid (((i : Int) * 2654435761 + (k : Int) * 40503) % 4294967296 = ((seedN k i : Nat) : Int)) := by
    show _ = _; unfold seedN; omega
  go_enter Try.func24, Try.ntmps24
  go_wp2_with fail
  go_ret
  rw [← HV.out]
  exact ⟨rfl, rfl⟩

/-- What holds at each round's head. -/
def GoesAt (W : World) (B : Nat) (y : Nat) (w : World) : Prop := y < 4294967296 ∧ RSt w B y ∧ Below W.heap.size W w

end Go.Proofs.Ytgfcpneblkleiaa
