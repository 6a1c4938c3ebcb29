/-
  What 'awake' answers: true, and nothing that was there has changed.
-/
import Derived.Test.YtnmiopafifibaaaNilA
namespace Go.Proofs.Ytnmiopafifibaaa.diskNil
open Go.ChangeShapes Go.WideShapes Go.ChangeAt Go.RowKit
set_option linter.unusedVariables false

theorem new9 (w : World) : Calls Try.prog 8 #[.int .i64 9] w fun e w' => e = .returned (.tuple #[.pointer (some ⟨w.heap.size, 0, none⟩), .int .i64 0]) ∧ w' = w.alloc (.cells #[.int .i64 9, .int .i64 0, .map none, .map none, .slice none 0 0, .bool false, .int .i64 0, .bool false, .int .i64 0, .bool false] 51) := by
  go_enter Try.func8, Try.ntmps8
  go_wp2
  go_ret2
  exact ⟨rfl, rfl⟩

theorem room_at (b : Nat) (c u r : Int) (hr : wrap64 (c - u) = r) (w : World) (h0 : w.cell? ⟨b, 0, none⟩ = some (.int .i64 c)) (h1 : w.cell? ⟨b, 1, none⟩ = some (.int .i64 u)) :
    Calls Try.prog 12 #[.pointer (some ⟨b, 0, none⟩)] w fun e w' => e = .returned (.int .i64 r) ∧ ∃ n, w' = w.drewN n := by
  have Hr := Lib.hid hr
  clear hr
  go_enter Try.func12, Try.ntmps12
  go_wp2
  go_quiet (fail)
  go_wp2
  go_ret
  exact ⟨congrArg (fun r => Ending.returned (.int .i64 r)) Hr.out, _, rfl⟩

theorem power_on (b : Nat) (w : World) (h9 : w.cell? ⟨b, 9, none⟩ = some (.bool false)) :
    Calls Try.prog 35 #[.pointer (some ⟨b, 0, none⟩)] w fun e w' => e = .returned (.int .i64 0) ∧ w = w' := by
  go_enter Try.func35, Try.ntmps35
  go_wp2
  go_ret
  exact ⟨rfl, rfl⟩

theorem look_none (s : ByteArray) (hs : s.size ≤ maxLen) (W : World) : (Instr.lookup 46 (.map none) (.string s) false).run Try.prog W = .ok (.pointer none) W :=
  Maps.look_nil false (Maps.string_keyed Try.underlying9) Try.underlying46 (z := .pointer none) (by kernel_rfl) (WideMaps.keyOf_string_mk Try.underlying9 hs)

theorem sync_none (b : Nat) (s : ByteArray) (hs : s.size ≤ maxLen) (w : World) (h9 : w.cell? ⟨b, 9, none⟩ = some (.bool false)) (h2 : w.cell? ⟨b, 2, none⟩ = some (.map none)) :
    Calls Try.prog 17 #[.pointer (some ⟨b, 0, none⟩), .string s] w fun e w' => e = .returned (.int .i64 7) ∧ w = w' := by
  have hl := look_none s hs
  clear hs
  go_enter Try.func17, Try.ntmps17
  go_wp2_with (go_at_call 35; refine (power_on _ _ ?_).mono ?_; exact h9; rintro e w' ⟨rfl, rfl⟩)
  go_ret
  exact ⟨rfl, rfl⟩

theorem awake_any (w : World) : Calls Try.prog 6 #[] w fun e w' => e = .returned (.bool true) ∧ Below w.heap.size w w' := by
  go_enter Try.func6, Try.ntmps6
  go_wp2_with fail
  refine (new9 _).mono ?_
  rintro e w' ⟨rfl, rfl⟩
  go_wp2_with fail
  refine (room_at _ 9 0 9 (by kernel_rfl) _ (by simp) (by simp)).mono ?_
  rintro e w' ⟨rfl, n, rfl⟩
  go_wp2_with fail
  refine (sync_none _ _ (by decide) _ (by simp) (by simp)).mono ?_
  rintro e w' ⟨rfl, rfl⟩
  go_wp2_with fail
  go_ret
  exact ⟨rfl, below_drewN ((Below.refl _ _).alloc (Nat.le_refl _) _) n⟩

end Go.Proofs.Ytnmiopafifibaaa.diskNil
