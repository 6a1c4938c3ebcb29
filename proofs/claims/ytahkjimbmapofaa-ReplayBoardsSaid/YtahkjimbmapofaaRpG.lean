/-
  The law ReplayBoards, out of what package replay answers: all cases.
-/
import Derived.Test.YtahkjimbmapofaaRpF
namespace Go.Proofs.Ytahkjimbmapofaa
open Go.ChangeShapes Go.WideShapes Go.ChangeAt Go.RowKit Go.Joins
set_option linter.unusedVariables false

theorem replayBoards_walk {Bd : Nat → World → Nat → Rws → Prop} (HC : RepC Bd) (a : Option Addr) (cap : Nat) (rows : Rws) (t f : Int) (ht : -9223372036854775808 ≤ t ∧ t ≤ 9223372036854775807) (hf : -9223372036854775808 ≤ f ∧ f ≤ 9223372036854775807) (c : Nat) (hc : c < 256) (sc : Bool) (w : World) (hs : Rs w.heap.size w a cap rows) :
    Calls Try.prog 4 #[.slice a rows.length cap, .int .i64 t, .int .i64 f, .int .u8 (c : Int), .bool sc] w (TrueAnd w) := by
  cases hF : fewC rows with
  | false => exact boards_few HC a cap rows t f c sc w hs hF
  | true =>
    cases hA : alikeB rows with
    | false => exact boards_odd HC a cap rows t f c sc w hs hF hA
    | true =>
      cases sc with
      | true =>
        by_cases hin : inS rows.length t
        · obtain ⟨m, rfl⟩ : ∃ m : Nat, t = (m : Int) := ⟨t.toNat, by have := hin.1; omega⟩
          exact boards_scale HC a cap rows m f hf c hc w hs hF hA (by have := hin.2; omega)
        · exact boards_badScale HC a cap rows t f ht hf c hc w hs hF hA hin
      | false =>
        by_cases hin : inS rows.length t ∧ inS rows.length f ∧ t ≠ f
        · obtain ⟨h1, h2, h3⟩ := hin
          obtain ⟨m, rfl⟩ : ∃ m : Nat, t = (m : Int) := ⟨t.toNat, by have := h1.1; omega⟩
          obtain ⟨k, rfl⟩ : ∃ k : Nat, f = (k : Int) := ⟨f.toNat, by have := h2.1; omega⟩
          exact boards_add HC a cap rows m k c hc w hs hF hA (by have := h1.2; omega) (by have := h2.2; omega) (by omega)
        · exact boards_badAdd HC a cap rows t f ht hf c hc w hs hF hA hin
end Go.Proofs.Ytahkjimbmapofaa
